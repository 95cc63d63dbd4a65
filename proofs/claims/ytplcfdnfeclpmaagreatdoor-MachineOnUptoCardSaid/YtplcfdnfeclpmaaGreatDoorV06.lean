/- MachineOn, part 6. -/
import Derived.Test.YtplcfdnfeclpmaaGreatDoorV05
set_option maxHeartbeats 4000000
set_option maxRecDepth 100000
open Go.Lib (hid)
open Go Go.RowKit Go.Deep Go.Joins Go.Proofs.Tryz
namespace Go.Proofs.YtplcfdnfeclpmaaGreatDoor.Pc
structure Near (w:World) where
 wx:World
 near:Below w.heap.size w wx
theorem zbR {P:Program} {id:Nat} {Q:Exit→Act→World→Prop} {a:Act} {w:World} {l:List Oper} (hm:P.follows .mixedOrders=true) (hB:Region.lexB .any l.toArray=true)
  (h:wpQuiet P l.toArray (fun w'=>∃ p:Near w,w'=p.wx) (fun a'=>∀ w',(∃ p:Near w,w'=p.wx)→Q .normal a' w') l a):(Code.region id l.toArray true).wp P Q a w :=
 wp_region_quiet (C:=fun w'=>∃ p:Near w,w'=p.wx) hm hB ⟨⟨w.drew,(Below.refl _ _).drew⟩,rfl⟩ (by simpa using h)
theorem za1 {P:Program} {f:FuncId} {args:Array Value} {w:World} {p:Near w} {v:Value} (h:Calls P f args p.wx fun e w'=>e=.returned v∧Below p.wx.heap.size p.wx w') :
  Calls P f args p.wx fun e w''=>e=.returned v∧∃ p:Near w,w''=p.wx :=
 h.mono fun _ _ ⟨he,hb⟩=>⟨he,⟨_,zac p.near (Nat.le_refl _) hb⟩,rfl⟩
theorem zbz {P:Program} {a:Act} {C:World→Prop} {o:Oper} {K:Act→Prop} (r:Value) (hrun:∀ w,C w→(execOp a.eval o).run P w=.ok (.value r) w) (hk:K (a.put o.dst r)):o.quiet P a C K :=
 ⟨r,fun w hw=>by unfold Oper.quietAt;rw [hrun w hw];exact ⟨rfl,rfl⟩,hk⟩
theorem zbg {P:Program} {ρ:Operand→Value} {o:Oper} {t:TypeId} {p:Operand} (ho:o.op=.load t p) {v r:Value} {w:World} (hrun:(Instr.loadAt t v).run P w=.ok r w) (hp:ρ p=v):(execOp ρ o).run P w=.ok (.value r) w:=by
 unfold execOp
 simp [ho,hp,hrun,Result.andThen]
theorem zf6 {w:World} {ops:Array Oper} {rest:List Oper} {o:Oper} {a:Act} {Q:Exit→Act→World→Prop} (hgd:Region.wanted o (yielded ops a.tmps)=true) {r:Value} (hrun:(execOp a.eval o).run Tryz.prog w=.ok (.value r) w)
  (h:wpList Tryz.prog ops Q rest (a.put o.dst r) w):wpList Tryz.prog ops Q (o :: rest) a w:=by
 refine wpList_step fun K hK=>?_
 rw [if_pos hgd];unfold Oper.wp;rw [hrun];exact hK _ _ h
theorem zb5 {w:World} {b:Nat} {h:Pl} (k:Box w b h) (w':World) (hw:∃ p:Near w,w'=p.wx):(Instr.loadAt 33 (.pointer (some ⟨b,0,none⟩))).run Tryz.prog w'=.ok (plV h) w':=by
 obtain ⟨p,rfl⟩:=hw;exact (k.next p.near).load
theorem zn7 {w:World} {b:Nat} {h:Pl} (k:Box w b h) (w':World) (hw:∃ p:Near w,w'=p.wx):(Instr.loadAt 29 (.pointer (some ⟨b,4,none⟩))).run Tryz.prog w'=.ok (.int .u32 h.e0) w':=by
 obtain ⟨p,rfl⟩:=hw;exact (k.next p.near).load_e0
theorem zs1 {w:World} {b:Nat} {h:Pl} (k:Box w b h) (w':World) (hw:∃ p:Near w,w'=p.wx):(Instr.loadAt 29 (.pointer (some ⟨b,5,none⟩))).run Tryz.prog w'=.ok (.int .u32 h.e1) w':=by
 obtain ⟨p,rfl⟩:=hw;exact (k.next p.near).load_e1
theorem zAL {w:World} {b:Nat} {h:Pl} (k:Box w b h) (w':World) (hw:∃ p:Near w,w'=p.wx):(Instr.loadAt 29 (.pointer (some ⟨b,6,none⟩))).run Tryz.prog w'=.ok (.int .u32 h.l0) w':=by
 obtain ⟨p,rfl⟩:=hw;exact (k.next p.near).load_l0
theorem zpZ {w:World} {b:Nat} {h:Pl} (k:Box w b h) (w':World) (hw:∃ p:Near w,w'=p.wx):(Instr.loadAt 29 (.pointer (some ⟨b,7,none⟩))).run Tryz.prog w'=.ok (.int .u32 h.l1) w':=by
 obtain ⟨p,rfl⟩:=hw;exact (k.next p.near).load_l1
theorem zk8 (x:Int):bits .and .u32 x 0=0:=by
 apply zci _ _ (zgV _ _) zfY
 intro i _;rw [zbd,zcv]
 simp
def zba (m:Bool) (k q:Int) (x:Int × Int):Int × Int:=if (m && decide (x.2<q))=true then (k,q) else x
def onB (h:Pl) (s e:Int) (k:Nat):Bool:=bitT (bits .and .u32 (zbH s h.c) e) k
def stB (h:Pl) (s e l:Int):Nat→Int × Int
 | 0=>(0,l)
 | 1=>(0,l)
 | 2=>zba (onB h s e 1) 1 h.p1 (0,l)
 | 3=>zba (onB h s e 2) 2 h.p2 (zba (onB h s e 1) 1 h.p1 (0,l))
 | _=>zba (onB h s e 3) 3 h.p3 (zba (onB h s e 2) 2 h.p2 (zba (onB h s e 1) 1 h.p1 (0,l)))
theorem zfd (m:Bool) (k q b t:Int) (hm:m=true) (h:t<q):zba m k q (b,t)=(k,q):=by unfold zba;simp [hm,h]
theorem zfq (m:Bool) (k q b t:Int) (hm:m=false):zba m k q (b,t)=(b,t):=by unfold zba;simp [hm]
theorem ze8 (m:Bool) (k q b t:Int) (h:¬ t<q):zba m k q (b,t)=(b,t):=by unfold zba;simp [h]
def zaO (h:Pl) (s who:Int):Int:=if who=0 then (stB h s h.e0 h.l0 4).1 else if who=1 then (stB h s h.e1 h.l1 4).1 else 0
theorem zzQ (h:Pl) (s:Int) (W:World):TB 65 #[plV h,.int .u32 s,.int .i64 0] W (.int .i64 (stB h s h.e0 h.l0 4).1):=by
 have a1:=hid (zfh (bits .and .u32 (zbH s h.c) h.e0) 1 (by omega));have a2:=hid (zfh (bits .and .u32 (zbH s h.c) h.e0) 2 (by omega));have a3:=hid (zfh (bits .and .u32 (zbH s h.c) h.e0) 3 (by omega));have i0:∀ w:World,(Instr.index 30 (.agg #[.int .u32 h.p0,.int .u32 h.p1,.int .u32 h.p2,.int .u32 h.p3]) (.int .i64 0)).run Tryz.prog w=.ok (.int .u32 h.p0) w:=fun _=>by kernel_rfl
 have i1:∀ w:World,(Instr.index 30 (.agg #[.int .u32 h.p0,.int .u32 h.p1,.int .u32 h.p2,.int .u32 h.p3]) (.int .i64 1)).run Tryz.prog w=.ok (.int .u32 h.p1) w:=fun _=>by kernel_rfl
 have i2:∀ w:World,(Instr.index 30 (.agg #[.int .u32 h.p0,.int .u32 h.p1,.int .u32 h.p2,.int .u32 h.p3]) (.int .i64 2)).run Tryz.prog w=.ok (.int .u32 h.p2) w:=fun _=>by kernel_rfl
 have i3:∀ w:World,(Instr.index 30 (.agg #[.int .u32 h.p0,.int .u32 h.p1,.int .u32 h.p2,.int .u32 h.p3]) (.int .i64 3)).run Tryz.prog w=.ok (.int .u32 h.p3) w:=fun _=>by kernel_rfl
 go_enter func65,ntmps65;go_upto_region 3 with (fail);have X0:=hid (Box.new W h);have B0:=hid (show Below W.heap.size W (W.alloc (plO h)) from (Below.refl _ _).alloc (Nat.le_refl _) _);generalize W.alloc (plO h)=w0 at *;have hne:Nonempty (Near w0):=⟨⟨w0,Below.refl _ _⟩⟩;refine zbR (by kernel_rfl) (by kernel_rfl) ?_
 repeat (first | (go_big_quiet_want;(with_reducible refine zbz _ (fun w hw=>zbg (t:=33) rfl (zb5 X0.out w hw) rfl) ?_);simp only [Act.put,List.setIfInBounds_toArray,List.set_cons_zero,List.set_cons_succ];go_big_quiet_on) | (go_big_quiet_want;(with_reducible refine zbz _ (fun w hw=>zbg (t:=29) rfl (zn7 X0.out w hw) rfl) ?_);simp only [Act.put,List.setIfInBounds_toArray,List.set_cons_zero,List.set_cons_succ];go_big_quiet_on) | go_big_quiet_step (first | (go_at_call 92;exact za1 (zhS h s _))))
 refine wpQuiet_nil ?_
 rintro _ ⟨pn,rfl⟩
 have X1:=hid (X0.out.next pn.near);have B1:=hid (zac B0.out (Nat.le_refl _) pn.near);clear X0 B0 hne;generalize pn.wx=w1 at *;go_upto_region 4 with (fail);have hne:Nonempty (Near w1):=⟨⟨w1,Below.refl _ _⟩⟩;refine zbR (by kernel_rfl) (by kernel_rfl) ?_
 repeat (first | (go_big_quiet_want;(with_reducible refine zbz _ (fun w hw=>zbg (t:=29) rfl (zAL X1.out w hw) rfl) ?_);simp only [Act.put,List.setIfInBounds_toArray,List.set_cons_zero,List.set_cons_succ];go_big_quiet_on) | go_big_quiet_step (first | fail))
 refine wpQuiet_nil ?_
 rintro _ ⟨pn,rfl⟩
 have X2:=hid (X1.out.next pn.near);have B2:=hid (zac B1.out (by have:=B1.out.size;omega) pn.near);clear X1 B1 hne;generalize pn.wx=w2 at *;go_wp2_with (with_reducible refine zaa rfl rfl (Box.load_prio X2.out) rfl ?_)
 go_loopw [8,9,32] (fun b t i wr=>∃ (k:Nat) (x:Int × Int),k≤4∧i=.int .i64 k∧b=.int .i64 x.1∧t=.int .u32 x.2∧Hid (stB h s h.e0 h.l0 k=x)∧Hid (w2=wr)) (fun _ _ i _=>4 - (intOf i).toNat)
 case atStart=>exact ⟨0,_,by omega,rfl,rfl,rfl,hid rfl,hid rfl⟩
 case round =>
  obtain ⟨k,⟨b,t⟩,hk,rfl,rfl,rfl,HN,HW⟩:=hrel;cases HW.out
  clear HW
  match k,hk,HN with
  | 0,_,HN =>
   have hz:(bits .and .u32 (bits .and .u32 (zbH s h.c) h.e0) 0 != 0)=false:=by rw [zk8];rfl
   have HS:Hid (stB h s h.e0 h.l0 1=(b,t)):=hid (HN.out);go_wp2_with (go_at_call 93;with_reducible refine (zfp _).tq ?_)
   go_round
   case rel=>exact ⟨1,_,by omega,rfl,rfl,rfl,HS,hid (by trivial)⟩
   case measure=>simp [intOf]
  | 1,_,HN =>
   rcases Bool.eq_false_or_eq_true (onB h s h.e0 1) with hm | hm
   ·have hz:(bits .and .u32 (bits .and .u32 (zbH s h.c) h.e0) 2 != 0)=true:=a1.out.trans hm
    by_cases ht:t<h.p1
    ·have HS:Hid (stB h s h.e0 h.l0 2=(1,h.p1)):=hid (by show zba (onB h s h.e0 1) 1 h.p1 (stB h s h.e0 h.l0 1)=_;rw [HN.out];exact zfd _ _ _ _ _ hm ht)
     go_wp2_with (go_at_call 93;with_reducible refine (zdR _).tq ?_)
     go_round
     case rel=>exact ⟨2,_,by omega,rfl,rfl,rfl,HS,hid (by trivial)⟩
     case measure=>simp [intOf]
    ·have HS:Hid (stB h s h.e0 h.l0 2=(b,t)):=hid (by show zba (onB h s h.e0 1) 1 h.p1 (stB h s h.e0 h.l0 1)=_;rw [HN.out];exact ze8 _ _ _ _ _ ht)
     go_wp2_with (go_at_call 93;with_reducible refine (zdR _).tq ?_)
     go_round
     case rel=>exact ⟨2,_,by omega,rfl,rfl,rfl,HS,hid (by trivial)⟩
     case measure=>simp [intOf]
   ·have hz:(bits .and .u32 (bits .and .u32 (zbH s h.c) h.e0) 2 != 0)=false:=a1.out.trans hm
    have HS:Hid (stB h s h.e0 h.l0 2=(b,t)):=hid (by show zba (onB h s h.e0 1) 1 h.p1 (stB h s h.e0 h.l0 1)=_;rw [HN.out];exact zfq _ _ _ _ _ hm);go_wp2_with (go_at_call 93;with_reducible refine (zdR _).tq ?_)
    go_round
    case rel=>exact ⟨2,_,by omega,rfl,rfl,rfl,HS,hid (by trivial)⟩
    case measure=>simp [intOf]
  | 2,_,HN =>
   rcases Bool.eq_false_or_eq_true (onB h s h.e0 2) with hm | hm
   ·have hz:(bits .and .u32 (bits .and .u32 (zbH s h.c) h.e0) 4 != 0)=true:=a2.out.trans hm
    by_cases ht:t<h.p2
    ·have HS:Hid (stB h s h.e0 h.l0 3=(2,h.p2)):=hid (by show zba (onB h s h.e0 2) 2 h.p2 (stB h s h.e0 h.l0 2)=_;rw [HN.out];exact zfd _ _ _ _ _ hm ht)
     go_wp2_with (go_at_call 93;with_reducible refine (zdJ _).tq ?_)
     go_round
     case rel=>exact ⟨3,_,by omega,rfl,rfl,rfl,HS,hid (by trivial)⟩
     case measure=>simp [intOf]
    ·have HS:Hid (stB h s h.e0 h.l0 3=(b,t)):=hid (by show zba (onB h s h.e0 2) 2 h.p2 (stB h s h.e0 h.l0 2)=_;rw [HN.out];exact ze8 _ _ _ _ _ ht)
     go_wp2_with (go_at_call 93;with_reducible refine (zdJ _).tq ?_)
     go_round
     case rel=>exact ⟨3,_,by omega,rfl,rfl,rfl,HS,hid (by trivial)⟩
     case measure=>simp [intOf]
   ·have hz:(bits .and .u32 (bits .and .u32 (zbH s h.c) h.e0) 4 != 0)=false:=a2.out.trans hm
    have HS:Hid (stB h s h.e0 h.l0 3=(b,t)):=hid (by show zba (onB h s h.e0 2) 2 h.p2 (stB h s h.e0 h.l0 2)=_;rw [HN.out];exact zfq _ _ _ _ _ hm);go_wp2_with (go_at_call 93;with_reducible refine (zdJ _).tq ?_)
    go_round
    case rel=>exact ⟨3,_,by omega,rfl,rfl,rfl,HS,hid (by trivial)⟩
    case measure=>simp [intOf]
  | 3,_,HN =>
   rcases Bool.eq_false_or_eq_true (onB h s h.e0 3) with hm | hm
   ·have hz:(bits .and .u32 (bits .and .u32 (zbH s h.c) h.e0) 8 != 0)=true:=a3.out.trans hm
    by_cases ht:t<h.p3
    ·have HS:Hid (stB h s h.e0 h.l0 4=(3,h.p3)):=hid (by show zba (onB h s h.e0 3) 3 h.p3 (stB h s h.e0 h.l0 3)=_;rw [HN.out];exact zfd _ _ _ _ _ hm ht)
     go_wp2_with (go_at_call 93;with_reducible refine (zdO _).tq ?_)
     go_round
     case rel=>exact ⟨4,_,by omega,rfl,rfl,rfl,HS,hid (by trivial)⟩
     case measure=>simp [intOf]
    ·have HS:Hid (stB h s h.e0 h.l0 4=(b,t)):=hid (by show zba (onB h s h.e0 3) 3 h.p3 (stB h s h.e0 h.l0 3)=_;rw [HN.out];exact ze8 _ _ _ _ _ ht)
     go_wp2_with (go_at_call 93;with_reducible refine (zdO _).tq ?_)
     go_round
     case rel=>exact ⟨4,_,by omega,rfl,rfl,rfl,HS,hid (by trivial)⟩
     case measure=>simp [intOf]
   ·have hz:(bits .and .u32 (bits .and .u32 (zbH s h.c) h.e0) 8 != 0)=false:=a3.out.trans hm
    have HS:Hid (stB h s h.e0 h.l0 4=(b,t)):=hid (by show zba (onB h s h.e0 3) 3 h.p3 (stB h s h.e0 h.l0 3)=_;rw [HN.out];exact zfq _ _ _ _ _ hm);go_wp2_with (go_at_call 93;with_reducible refine (zdO _).tq ?_)
    go_round
    case rel=>exact ⟨4,_,by omega,rfl,rfl,rfl,HS,hid (by trivial)⟩
    case measure=>simp [intOf]
  | 4,_,HN =>
   have HE:Hid ((stB h s h.e0 h.l0 4).1=b):=hid (by rw [HN.out]);go_wp2_with fail;go_ret;exact ⟨zam HE.out.symm,B2.out⟩
theorem zy0 (h:Pl) (s:Int) (W:World):TB 65 #[plV h,.int .u32 s,.int .i64 1] W (.int .i64 (stB h s h.e1 h.l1 4).1):=by
 have a1:=hid (zfh (bits .and .u32 (zbH s h.c) h.e1) 1 (by omega));have a2:=hid (zfh (bits .and .u32 (zbH s h.c) h.e1) 2 (by omega));have a3:=hid (zfh (bits .and .u32 (zbH s h.c) h.e1) 3 (by omega));have i0:∀ w:World,(Instr.index 30 (.agg #[.int .u32 h.p0,.int .u32 h.p1,.int .u32 h.p2,.int .u32 h.p3]) (.int .i64 0)).run Tryz.prog w=.ok (.int .u32 h.p0) w:=fun _=>by kernel_rfl
 have i1:∀ w:World,(Instr.index 30 (.agg #[.int .u32 h.p0,.int .u32 h.p1,.int .u32 h.p2,.int .u32 h.p3]) (.int .i64 1)).run Tryz.prog w=.ok (.int .u32 h.p1) w:=fun _=>by kernel_rfl
 have i2:∀ w:World,(Instr.index 30 (.agg #[.int .u32 h.p0,.int .u32 h.p1,.int .u32 h.p2,.int .u32 h.p3]) (.int .i64 2)).run Tryz.prog w=.ok (.int .u32 h.p2) w:=fun _=>by kernel_rfl
 have i3:∀ w:World,(Instr.index 30 (.agg #[.int .u32 h.p0,.int .u32 h.p1,.int .u32 h.p2,.int .u32 h.p3]) (.int .i64 3)).run Tryz.prog w=.ok (.int .u32 h.p3) w:=fun _=>by kernel_rfl
 go_enter func65,ntmps65;go_upto_region 3 with (fail);have X0:=hid (Box.new W h);have B0:=hid (show Below W.heap.size W (W.alloc (plO h)) from (Below.refl _ _).alloc (Nat.le_refl _) _);generalize W.alloc (plO h)=w0 at *;have hne:Nonempty (Near w0):=⟨⟨w0,Below.refl _ _⟩⟩;refine zbR (by kernel_rfl) (by kernel_rfl) ?_
 repeat (first | (go_big_quiet_want;(with_reducible refine zbz _ (fun w hw=>zbg (t:=33) rfl (zb5 X0.out w hw) rfl) ?_);simp only [Act.put,List.setIfInBounds_toArray,List.set_cons_zero,List.set_cons_succ];go_big_quiet_on) | (go_big_quiet_want;(with_reducible refine zbz _ (fun w hw=>zbg (t:=29) rfl (zs1 X0.out w hw) rfl) ?_);simp only [Act.put,List.setIfInBounds_toArray,List.set_cons_zero,List.set_cons_succ];go_big_quiet_on) | go_big_quiet_step (first | (go_at_call 92;exact za1 (zhS h s _))))
 refine wpQuiet_nil ?_
 rintro _ ⟨pn,rfl⟩
 have X1:=hid (X0.out.next pn.near);have B1:=hid (zac B0.out (Nat.le_refl _) pn.near);clear X0 B0 hne;generalize pn.wx=w1 at *;go_upto_region 4 with (fail);have hne:Nonempty (Near w1):=⟨⟨w1,Below.refl _ _⟩⟩;refine zbR (by kernel_rfl) (by kernel_rfl) ?_
 repeat (first | (go_big_quiet_want;(with_reducible refine zbz _ (fun w hw=>zbg (t:=29) rfl (zpZ X1.out w hw) rfl) ?_);simp only [Act.put,List.setIfInBounds_toArray,List.set_cons_zero,List.set_cons_succ];go_big_quiet_on) | go_big_quiet_step (first | fail))
 refine wpQuiet_nil ?_
 rintro _ ⟨pn,rfl⟩
 have X2:=hid (X1.out.next pn.near);have B2:=hid (zac B1.out (by have:=B1.out.size;omega) pn.near);clear X1 B1 hne;generalize pn.wx=w2 at *;go_wp2_with (with_reducible refine zaa rfl rfl (Box.load_prio X2.out) rfl ?_)
 go_loopw [8,9,32] (fun b t i wr=>∃ (k:Nat) (x:Int × Int),k≤4∧i=.int .i64 k∧b=.int .i64 x.1∧t=.int .u32 x.2∧Hid (stB h s h.e1 h.l1 k=x)∧Hid (w2=wr)) (fun _ _ i _=>4 - (intOf i).toNat)
 case atStart=>exact ⟨0,_,by omega,rfl,rfl,rfl,hid rfl,hid rfl⟩
 case round =>
  obtain ⟨k,⟨b,t⟩,hk,rfl,rfl,rfl,HN,HW⟩:=hrel;cases HW.out
  clear HW
  match k,hk,HN with
  | 0,_,HN =>
   have hz:(bits .and .u32 (bits .and .u32 (zbH s h.c) h.e1) 0 != 0)=false:=by rw [zk8];rfl
   have HS:Hid (stB h s h.e1 h.l1 1=(b,t)):=hid (HN.out);go_wp2_with (go_at_call 93;with_reducible refine (zfp _).tq ?_)
   go_round
   case rel=>exact ⟨1,_,by omega,rfl,rfl,rfl,HS,hid (by trivial)⟩
   case measure=>simp [intOf]
  | 1,_,HN =>
   rcases Bool.eq_false_or_eq_true (onB h s h.e1 1) with hm | hm
   ·have hz:(bits .and .u32 (bits .and .u32 (zbH s h.c) h.e1) 2 != 0)=true:=a1.out.trans hm
    by_cases ht:t<h.p1
    ·have HS:Hid (stB h s h.e1 h.l1 2=(1,h.p1)):=hid (by show zba (onB h s h.e1 1) 1 h.p1 (stB h s h.e1 h.l1 1)=_;rw [HN.out];exact zfd _ _ _ _ _ hm ht)
     go_wp2_with (go_at_call 93;with_reducible refine (zdR _).tq ?_)
     go_round
     case rel=>exact ⟨2,_,by omega,rfl,rfl,rfl,HS,hid (by trivial)⟩
     case measure=>simp [intOf]
    ·have HS:Hid (stB h s h.e1 h.l1 2=(b,t)):=hid (by show zba (onB h s h.e1 1) 1 h.p1 (stB h s h.e1 h.l1 1)=_;rw [HN.out];exact ze8 _ _ _ _ _ ht)
     go_wp2_with (go_at_call 93;with_reducible refine (zdR _).tq ?_)
     go_round
     case rel=>exact ⟨2,_,by omega,rfl,rfl,rfl,HS,hid (by trivial)⟩
     case measure=>simp [intOf]
   ·have hz:(bits .and .u32 (bits .and .u32 (zbH s h.c) h.e1) 2 != 0)=false:=a1.out.trans hm
    have HS:Hid (stB h s h.e1 h.l1 2=(b,t)):=hid (by show zba (onB h s h.e1 1) 1 h.p1 (stB h s h.e1 h.l1 1)=_;rw [HN.out];exact zfq _ _ _ _ _ hm);go_wp2_with (go_at_call 93;with_reducible refine (zdR _).tq ?_)
    go_round
    case rel=>exact ⟨2,_,by omega,rfl,rfl,rfl,HS,hid (by trivial)⟩
    case measure=>simp [intOf]
  | 2,_,HN =>
   rcases Bool.eq_false_or_eq_true (onB h s h.e1 2) with hm | hm
   ·have hz:(bits .and .u32 (bits .and .u32 (zbH s h.c) h.e1) 4 != 0)=true:=a2.out.trans hm
    by_cases ht:t<h.p2
    ·have HS:Hid (stB h s h.e1 h.l1 3=(2,h.p2)):=hid (by show zba (onB h s h.e1 2) 2 h.p2 (stB h s h.e1 h.l1 2)=_;rw [HN.out];exact zfd _ _ _ _ _ hm ht)
     go_wp2_with (go_at_call 93;with_reducible refine (zdJ _).tq ?_)
     go_round
     case rel=>exact ⟨3,_,by omega,rfl,rfl,rfl,HS,hid (by trivial)⟩
     case measure=>simp [intOf]
    ·have HS:Hid (stB h s h.e1 h.l1 3=(b,t)):=hid (by show zba (onB h s h.e1 2) 2 h.p2 (stB h s h.e1 h.l1 2)=_;rw [HN.out];exact ze8 _ _ _ _ _ ht)
     go_wp2_with (go_at_call 93;with_reducible refine (zdJ _).tq ?_)
     go_round
     case rel=>exact ⟨3,_,by omega,rfl,rfl,rfl,HS,hid (by trivial)⟩
     case measure=>simp [intOf]
   ·have hz:(bits .and .u32 (bits .and .u32 (zbH s h.c) h.e1) 4 != 0)=false:=a2.out.trans hm
    have HS:Hid (stB h s h.e1 h.l1 3=(b,t)):=hid (by show zba (onB h s h.e1 2) 2 h.p2 (stB h s h.e1 h.l1 2)=_;rw [HN.out];exact zfq _ _ _ _ _ hm);go_wp2_with (go_at_call 93;with_reducible refine (zdJ _).tq ?_)
    go_round
    case rel=>exact ⟨3,_,by omega,rfl,rfl,rfl,HS,hid (by trivial)⟩
    case measure=>simp [intOf]
  | 3,_,HN =>
   rcases Bool.eq_false_or_eq_true (onB h s h.e1 3) with hm | hm
   ·have hz:(bits .and .u32 (bits .and .u32 (zbH s h.c) h.e1) 8 != 0)=true:=a3.out.trans hm
    by_cases ht:t<h.p3
    ·have HS:Hid (stB h s h.e1 h.l1 4=(3,h.p3)):=hid (by show zba (onB h s h.e1 3) 3 h.p3 (stB h s h.e1 h.l1 3)=_;rw [HN.out];exact zfd _ _ _ _ _ hm ht)
     go_wp2_with (go_at_call 93;with_reducible refine (zdO _).tq ?_)
     go_round
     case rel=>exact ⟨4,_,by omega,rfl,rfl,rfl,HS,hid (by trivial)⟩
     case measure=>simp [intOf]
    ·have HS:Hid (stB h s h.e1 h.l1 4=(b,t)):=hid (by show zba (onB h s h.e1 3) 3 h.p3 (stB h s h.e1 h.l1 3)=_;rw [HN.out];exact ze8 _ _ _ _ _ ht)
     go_wp2_with (go_at_call 93;with_reducible refine (zdO _).tq ?_)
     go_round
     case rel=>exact ⟨4,_,by omega,rfl,rfl,rfl,HS,hid (by trivial)⟩
     case measure=>simp [intOf]
   ·have hz:(bits .and .u32 (bits .and .u32 (zbH s h.c) h.e1) 8 != 0)=false:=a3.out.trans hm
    have HS:Hid (stB h s h.e1 h.l1 4=(b,t)):=hid (by show zba (onB h s h.e1 3) 3 h.p3 (stB h s h.e1 h.l1 3)=_;rw [HN.out];exact zfq _ _ _ _ _ hm);go_wp2_with (go_at_call 93;with_reducible refine (zdO _).tq ?_)
    go_round
    case rel=>exact ⟨4,_,by omega,rfl,rfl,rfl,HS,hid (by trivial)⟩
    case measure=>simp [intOf]
  | 4,_,HN =>
   have HE:Hid ((stB h s h.e1 h.l1 4).1=b):=hid (by rw [HN.out]);go_wp2_with fail;go_ret;exact ⟨zam HE.out.symm,B2.out⟩
theorem zrd (h:Pl) (s who:Int) (h0:(who != 0)=true) (h1:(who != 1)=true) (W:World):TB 65 #[plV h,.int .u32 s,.int .i64 who] W (.int .i64 0):=by
 go_enter func65,ntmps65
 go_wp2
 go_ret;exact ⟨rfl,(Below.refl _ _).alloc (Nat.le_refl _) _⟩
theorem zcL (h:Pl) (s who:Int) (W:World):TB 65 #[plV h,.int .u32 s,.int .i64 who] W (.int .i64 (zaO h s who)):=by
 unfold zaO
 split
 ·rename_i hw
  subst hw;exact zzQ h s W
 ·split
  ·rename_i _ hw
   subst hw;exact zy0 h s W
  ·rename_i h0 h1
   exact zrd h s who (by simpa using h0) (by simpa using h1) W
def zcO (h:Pl) (s:Int):Int:=bits .or .u64 (if zaO h s 0=0 then 0 else 2048) (if zaO h s 1=0 then 0 else 512)
theorem zh2 (m:Bool) (k q:Int) (x:Int × Int) (hk:0≤k∧k≤3) (hx:0≤x.1∧x.1≤3):0≤(zba m k q x).1∧(zba m k q x).1≤3:=by
 unfold zba
 split
 ·exact hk
 ·exact hx
theorem zkR (h:Pl) (s e l:Int):0≤(stB h s e l 4).1∧(stB h s e l 4).1≤3 :=
 zh2 _ _ _ _ (by omega) (zh2 _ _ _ _ (by omega) (zh2 _ _ _ _ (by omega) ⟨by show (0:Int)≤0;omega,by show (0:Int)≤3;omega⟩))
theorem zgp (h:Pl) (s who:Int):0≤zaO h s who∧zaO h s who≤3:=by
 unfold zaO
 split
 ·exact zkR h s _ _
 ·split
  ·exact zkR h s _ _
  ·omega
theorem zxh (h:Pl) (s:Int) (n0:zaO h s 0=0) (n1:zaO h s 1=0) (W:World):TB 45 #[plV h,.int .u32 s] W (.int .u64 (zcO h s)):=by
 have HE:Hid (zcO h s=0):=hid (by unfold zcO;rw [if_pos n0,if_pos n1] <;> decide +kernel);have q0:=zcL h s 0;have q1:=zcL h s 1;rw [n0] at q0;rw [n1] at q1;have Q0:=hid q0;have Q1:=hid q1;clear q0 q1;go_enter func45,ntmps45;go_wp2_with (first | (with_reducible first | refine zaa rfl rfl (Box.load ((Box.new W h).next k1)) rfl ?_ | refine zaa rfl rfl (Box.load (Box.new W h)) rfl ?_) | (go_at_call 65;(with_reducible refine (Q0.out _).mono ?_);rintro e w1 ⟨rfl,k1⟩) | (go_at_call 65;(with_reducible refine (Q1.out _).mono ?_);rintro e w2 ⟨rfl,k2⟩));go_ret;exact ⟨zam HE.out.symm,zac (zac ((Below.refl _ _).alloc (Nat.le_refl _) _) (Nat.le_refl _) k1) (Nat.le_refl _) k2⟩
theorem zt3 (h:Pl) (s:Int) (n0:zaO h s 0=0) (n1:0<zaO h s 1) (W:World):TB 45 #[plV h,.int .u32 s] W (.int .u64 (zcO h s)):=by
 have HE:Hid (zcO h s=bits .or .u64 0 512):=hid (by unfold zcO;rw [if_pos n0,if_neg (by omega)] <;> decide +kernel);have q0:=zcL h s 0;have q1:=zcL h s 1;rw [n0] at q0;have e1:(zaO h s 1 != 0)=true:=by rw [bne_iff_ne];omega
 generalize zaO h s 1=x1 at *;have Q0:=hid q0;have Q1:=hid q1;clear q0 q1;go_enter func45,ntmps45;go_wp2_with (first | (with_reducible first | refine zaa rfl rfl (Box.load ((Box.new W h).next k1)) rfl ?_ | refine zaa rfl rfl (Box.load (Box.new W h)) rfl ?_) | (go_at_call 65;(with_reducible refine (Q0.out _).mono ?_);rintro e w1 ⟨rfl,k1⟩) | (go_at_call 65;(with_reducible refine (Q1.out _).mono ?_);rintro e w2 ⟨rfl,k2⟩));go_ret;exact ⟨zam HE.out.symm,zac (zac ((Below.refl _ _).alloc (Nat.le_refl _) _) (Nat.le_refl _) k1) (Nat.le_refl _) k2⟩
theorem zyi (h:Pl) (s:Int) (n0:0<zaO h s 0) (n1:zaO h s 1=0) (W:World):TB 45 #[plV h,.int .u32 s] W (.int .u64 (zcO h s)):=by
 have HE:Hid (zcO h s=bits .or .u64 0 2048):=hid (by unfold zcO;rw [if_neg (by omega),if_pos n1] <;> decide +kernel);have q0:=zcL h s 0;have q1:=zcL h s 1;have e0:(zaO h s 0 != 0)=true:=by rw [bne_iff_ne];omega
 generalize zaO h s 0=x0 at *;rw [n1] at q1;have Q0:=hid q0;have Q1:=hid q1;clear q0 q1;go_enter func45,ntmps45;go_wp2_with (first | (with_reducible first | refine zaa rfl rfl (Box.load ((Box.new W h).next k1)) rfl ?_ | refine zaa rfl rfl (Box.load (Box.new W h)) rfl ?_) | (go_at_call 65;(with_reducible refine (Q0.out _).mono ?_);rintro e w1 ⟨rfl,k1⟩) | (go_at_call 65;(with_reducible refine (Q1.out _).mono ?_);rintro e w2 ⟨rfl,k2⟩));go_ret;exact ⟨zam HE.out.symm,zac (zac ((Below.refl _ _).alloc (Nat.le_refl _) _) (Nat.le_refl _) k1) (Nat.le_refl _) k2⟩
theorem zAd (h:Pl) (s:Int) (n0:0<zaO h s 0) (n1:0<zaO h s 1) (W:World):TB 45 #[plV h,.int .u32 s] W (.int .u64 (zcO h s)):=by
 have HE:Hid (zcO h s=bits .or .u64 (bits .or .u64 0 2048) 512):=hid (by unfold zcO;rw [if_neg (by omega),if_neg (by omega)] <;> decide +kernel);have q0:=zcL h s 0;have q1:=zcL h s 1;have e0:(zaO h s 0 != 0)=true:=by rw [bne_iff_ne];omega
 generalize zaO h s 0=x0 at *;have e1:(zaO h s 1 != 0)=true:=by rw [bne_iff_ne];omega
 generalize zaO h s 1=x1 at *;have Q0:=hid q0;have Q1:=hid q1;clear q0 q1;go_enter func45,ntmps45;go_wp2_with (first | (with_reducible first | refine zaa rfl rfl (Box.load ((Box.new W h).next k1)) rfl ?_ | refine zaa rfl rfl (Box.load (Box.new W h)) rfl ?_) | (go_at_call 65;(with_reducible refine (Q0.out _).mono ?_);rintro e w1 ⟨rfl,k1⟩) | (go_at_call 65;(with_reducible refine (Q1.out _).mono ?_);rintro e w2 ⟨rfl,k2⟩));go_ret;exact ⟨zam HE.out.symm,zac (zac ((Below.refl _ _).alloc (Nat.le_refl _) _) (Nat.le_refl _) k1) (Nat.le_refl _) k2⟩
theorem zpH (h:Pl) (s:Int) (W:World):TB 45 #[plV h,.int .u32 s] W (.int .u64 (zcO h s)):=by
 have r0:=zgp h s 0;have r1:=zgp h s 1
 by_cases n0:zaO h s 0=0
 ·by_cases n1:zaO h s 1=0
  ·exact zxh h s n0 n1 W
  ·exact zt3 h s n0 (by omega) W
 ·by_cases n1:zaO h s 1=0
  ·exact zyi h s (by omega) n1 W
  ·exact zAd h s (by omega) (by omega) W
def ldF (h:Pl) (s t z:Int):Pl × Int × Bool :=
 if t=201326596∧z=4 then (h,IntKind.u64.wrap h.p1,true) else
 if t=201326600∧z=4 then (h,IntKind.u64.wrap h.p2,true) else
 if t=201326604∧z=4 then (h,IntKind.u64.wrap h.p3,true) else
 if t=201330688∧z=4 then (h,IntKind.u64.wrap (zbH s h.c),true) else
 if t=201334784∧z=4 then (h,IntKind.u64.wrap h.e0,true) else
 if t=201334912∧z=4 then (h,IntKind.u64.wrap h.e1,true) else
 if t=203423744∧z=4 then (h,IntKind.u64.wrap h.l0,true) else
 if t=203427840∧z=4 then (h,IntKind.u64.wrap h.l1,true) else
 if t=203423748∧z=4 then ({ h with c:=bits .or .u32 h.c (wt (zaO h s 0)) },zaO h s 0,true) else
 if t=203427844∧z=4 then ({ h with c:=bits .or .u32 h.c (wt (zaO h s 1)) },zaO h s 1,true) else
 (zdm,0,false)
theorem zb2 (h:Pl) (s t z:Int) (hn:z≠4∨zdv t):ldF h s t z=(zdm,0,false):=by
 unfold ldF;rcases hn with hn | hn
 ·simp [hn]
 ·simp [hn.n_p1,hn.n_p2,hn.n_p3,hn.n_wait,hn.n_e0,hn.n_e1,hn.n_l0,hn.n_l1,hn.n_b0,hn.n_b1]
theorem zz3 (h:Pl) (s:Int):ldF h s 201326596 4=(h,IntKind.u64.wrap h.p1,true):=rfl
theorem znw (h:Pl) (s:Int):ldF h s 201326600 4=(h,IntKind.u64.wrap h.p2,true):=rfl
theorem zxz (h:Pl) (s:Int):ldF h s 201326604 4=(h,IntKind.u64.wrap h.p3,true):=rfl
theorem zqI (h:Pl) (s:Int):ldF h s 201330688 4=(h,IntKind.u64.wrap (zbH s h.c),true):=rfl
theorem zqs (h:Pl) (s:Int):ldF h s 201334784 4=(h,IntKind.u64.wrap h.e0,true):=rfl
theorem zn4 (h:Pl) (s:Int):ldF h s 201334912 4=(h,IntKind.u64.wrap h.e1,true):=rfl
theorem zpU (h:Pl) (s:Int):ldF h s 203423744 4=(h,IntKind.u64.wrap h.l0,true):=rfl
theorem zqT (h:Pl) (s:Int):ldF h s 203427840 4=(h,IntKind.u64.wrap h.l1,true):=rfl
theorem zgx (h:Pl) (s:Int):ldF h s 203423748 4=({ h with c:=bits .or .u32 h.c (wt (zaO h s 0)) },zaO h s 0,true):=rfl
theorem zgQ (h:Pl) (s:Int):ldF h s 203427844 4=({ h with c:=bits .or .u32 h.c (wt (zaO h s 1)) },zaO h s 1,true):=rfl
def zbP (h:Pl) (n e:Int):Int:=if (1≤n∧n≤3)∧bitT e n.toNat=true then bits .andNot .u32 h.c (wt n) else h.c
def stF (h:Pl) (t z v:Int):Pl × Bool :=
 if t=201326596∧z=4 then ({ h with p1:=bits .and .u32 (IntKind.u32.wrap v) 7 },true) else
 if t=201326600∧z=4 then ({ h with p2:=bits .and .u32 (IntKind.u32.wrap v) 7 },true) else
 if t=201326604∧z=4 then ({ h with p3:=bits .and .u32 (IntKind.u32.wrap v) 7 },true) else
 if t=201334784∧z=4 then ({ h with e0:=bits .and .u32 (IntKind.u32.wrap v) 14 },true) else
 if t=201334912∧z=4 then ({ h with e1:=bits .and .u32 (IntKind.u32.wrap v) 14 },true) else
 if t=203423744∧z=4 then ({ h with l0:=bits .and .u32 (IntKind.u32.wrap v) 7 },true) else
 if t=203427840∧z=4 then ({ h with l1:=bits .and .u32 (IntKind.u32.wrap v) 7 },true) else
 if t=203423748∧z=4 then ({ h with c:=zbP h (IntKind.u32.wrap v) h.e0 },true) else
 if t=203427844∧z=4 then ({ h with c:=zbP h (IntKind.u32.wrap v) h.e1 },true) else
 (zdm,false)
theorem zbO (h:Pl) (t z v:Int) (hn:z≠4∨zdv t):stF h t z v=(zdm,false):=by
 unfold stF;rcases hn with hn | hn
 ·simp [hn]
 ·simp [hn.n_p1,hn.n_p2,hn.n_p3,hn.n_e0,hn.n_e1,hn.n_l0,hn.n_l1,hn.n_b0,hn.n_b1]
theorem ziQ (h:Pl) (v:Int):stF h 201330688 4 v=(zdm,false):=rfl
theorem zqV (h:Pl) (v:Int):stF h 201326596 4 v=({ h with p1:=bits .and .u32 (IntKind.u32.wrap v) 7 },true):=rfl
theorem zzC (h:Pl) (v:Int):stF h 201326600 4 v=({ h with p2:=bits .and .u32 (IntKind.u32.wrap v) 7 },true):=rfl
theorem znd (h:Pl) (v:Int):stF h 201326604 4 v=({ h with p3:=bits .and .u32 (IntKind.u32.wrap v) 7 },true):=rfl
theorem zoV (h:Pl) (v:Int):stF h 201334784 4 v=({ h with e0:=bits .and .u32 (IntKind.u32.wrap v) 14 },true):=rfl
theorem zrS (h:Pl) (v:Int):stF h 201334912 4 v=({ h with e1:=bits .and .u32 (IntKind.u32.wrap v) 14 },true):=rfl
theorem zlY (h:Pl) (v:Int):stF h 203423744 4 v=({ h with l0:=bits .and .u32 (IntKind.u32.wrap v) 7 },true):=rfl
theorem zvH (h:Pl) (v:Int):stF h 203427840 4 v=({ h with l1:=bits .and .u32 (IntKind.u32.wrap v) 7 },true):=rfl
theorem zfU (h:Pl) (v:Int):stF h 203423748 4 v=({ h with c:=zbP h (IntKind.u32.wrap v) h.e0 },true):=rfl
theorem zfP (h:Pl) (v:Int):stF h 203427844 4 v=({ h with c:=zbP h (IntKind.u32.wrap v) h.e1 },true):=rfl
end Go.Proofs.YtplcfdnfeclpmaaGreatDoor.Pc
