/- MachineOn, part 24. -/
import Derived.BigQuiet
import Derived.Test.YtplcfdnfeclpmaaGreatDoorV23
set_option maxHeartbeats 4000000
set_option maxRecDepth 100000
open Go.Lib (hid)
open Go Go.RowKit Go.Deep Go.Joins Go.Proofs.Tryz
namespace Go.Proofs.YtplcfdnfeclpmaaGreatDoor.Wk
theorem zfJ:(Tryz.prog.info? 39).map (·.size)=some 3:=by kernel_rfl
def MBox (w:World) (b:Nat) (V:Array Value):Prop:=w.heap[b]?=some (.cells V 39 (0,0))
theorem MBox.lt {w:World} {b:Nat} {C:Array Value} (k:MBox w b C):b<w.heap.size:=(Array.getElem?_eq_some_iff.1 k).1
theorem MBox.next {w w':World} {b:Nat} {C:Array Value} (k:MBox w b C) (j:Below w.heap.size w w'):MBox w' b C:=(j.block b k.lt).trans k
theorem MBox.load {w:World} {b:Nat} {C:Array Value} (k:MBox w b C) (h:C.size=3):(Instr.loadAt 39 (.pointer (some ⟨b,0,none⟩))).run Tryz.prog w=.ok (.agg C) w:=by
 simp only [Instr.loadAt,Instr.sureAddr,Sem.run_bind,Sem.run_pure,Result.andThen];exact run_loadVar_row w b 39 39 C (0,0) _ k underlying39 rfl (by rw [zfJ,h])
structure Near (w:World) where
 wx:World
 near:Below w.heap.size w wx
theorem zbR {P:Program} {id:Nat} {Q:Exit→Act→World→Prop} {a:Act} {w:World} {l:List Oper} (hm:P.follows .mixedOrders=true) (hB:Region.lexB .any l.toArray=true)
  (h:wpQuiet P l.toArray (fun w'=>∃ p:Near w,w'=p.wx) (fun a'=>∀ w',(∃ p:Near w,w'=p.wx)→Q .normal a' w') l a):(Code.region id l.toArray true).wp P Q a w :=
 wp_region_quiet (C:=fun w'=>∃ p:Near w,w'=p.wx) hm hB ⟨⟨w.drew,(Below.refl _ _).drew⟩,rfl⟩ (by simpa using h)
theorem za1 {P:Program} {f:FuncId} {args:Array Value} {w:World} {p:Near w} {v:Value} (h:Calls P f args p.wx fun e w'=>e=.returned v∧Below p.wx.heap.size p.wx w') :
  Calls P f args p.wx fun e w''=>e=.returned v∧∃ p:Near w,w''=p.wx :=
 h.mono fun _ _ ⟨he,hb⟩=>⟨he,⟨_,zac p.near hb⟩,rfl⟩
theorem zbz {P:Program} {a:Act} {C:World→Prop} {o:Oper} {K:Act→Prop} (r:Value) (hrun:∀ w,C w→(execOp a.eval o).run P w=.ok (.value r) w) (hk:K (a.put o.dst r)):o.quiet P a C K :=
 ⟨r,fun w hw=>by unfold Oper.quietAt;rw [hrun w hw];exact ⟨rfl,rfl⟩,hk⟩
theorem zbg {P:Program} {ρ:Operand→Value} {o:Oper} {t:TypeId} {p:Operand} (ho:o.op=.load t p) {v r:Value} {w:World} (hrun:(Instr.loadAt t v).run P w=.ok r w) (hp:ρ p=v):(execOp ρ o).run P w=.ok (.value r) w:=by
 unfold execOp
 simp [ho,hp,hrun,Result.andThen]
theorem zb5 {w:World} {b:Nat} {V:Array Value} (k:MBox w b V) (h:V.size=3) (w':World) (hw:∃ p:Near w,w'=p.wx):(Instr.loadAt 39 (.pointer (some ⟨b,0,none⟩))).run Tryz.prog w'=.ok (.agg V) w':=by
 obtain ⟨p,rfl⟩:=hw;exact (k.next p.near).load h
theorem zcs {P:Program} {f:FuncId} {args:Array Value} {w:World} {v:Value} (h:Calls P f args w fun e w'=>e=.returned v∧w=w'):Calls P f args w fun e w'=>e=.returned v∧Below w.heap.size w w' :=
 h.mono fun _ _ ⟨he,hb⟩=>⟨he,hb ▸ Below.refl _ _⟩
def ziD (f:Nat) (V:Array Value) (D:List UInt8) (w0:World):Prop:=∀ W,Below w0.heap.size w0 W→∀ t:Int,0≤t→t≤18446744073709551615 →
 TB f #[.agg V,.int .u64 t,.int .i64 8] W (.tuple #[.int .u64 (ldV D t 8),.int .i64 (stE D.length t 8)])
def lowV (k:Nat):Int:=2 ^ (12+9*k) - 1
def zcb (tb t:Int) (k:Nat):Int:=IntKind.u64.wrap (tb+IntKind.u64.wrap (8*zf0 t k))
def goF (D:List UInt8) (ms md t kind:Int):Nat→Int→Int × Int
 | 0,_=>(0,zdE kind)
 | k+1,tb =>
  if stE D.length (zcb tb t k) 8≠0 then (0,accV kind) else
  if zao (ldV D (zcb tb t k) 8)=false then (0,zdE kind) else
  if (bits .and .u64 (ldV D (zcb tb t k) 8) 10==0)=true then goF D ms md t kind k (zcQ (ldV D (zcb tb t k) 8 / 1024)) else
  if (bits .and .u64 (zcQ (ldV D (zcb tb t k) 8 / 1024)) (lowV k) != 0)=true then (0,zdE kind) else
  if zdC ms md (ldV D (zcb tb t k) 8) kind=false then (0,zdE kind) else
  (bits .or .u64 (zcQ (ldV D (zcb tb t k) 8 / 1024)) (bits .and .u64 t (lowV k)),-1)
def zbr (D:List UInt8) (ms sp m t kind:Int):Int × Int :=
 if kind<0∨2<kind then (0,0) else
 if 3≤zdQ ms m kind then (t,-1) else
 if (sp / 1152921504606846976 != 8)=true then (t,-1) else
 if zfs t=false then (0,zdE kind) else
 goF D ms (zdQ ms m kind) t kind 3 (zcQ sp)
def zeu (r:Int × Int):Value:=.tuple #[.int .u64 r.1,.int .i64 r.2]
theorem zaP {r:Int × Int} {a b:Int} (h:r=(a,b)):Ending.returned (.tuple #[.int .u64 a,.int .i64 b])=.returned (zeu r):=by rw [h];rfl
theorem zw6 (C V:Array Value) (ms sp m t kind:Int) (D:List UInt8) (W:World) (h:zdT C ms sp) (hV:V.size=3) (k:kind<0):TB 116 #[.agg C,.int .i64 m,.agg V,.int .u64 t,.int .i64 kind] W (zeu (zbr D ms sp m t kind)):=by
 have HE:Hid (zbr D ms sp m t kind=(0,0)):=hid (if_pos (Or.inl k));have g:decide (kind<0)=true:=decide_eq_true k;have hH:=And.intro h hV;clear hH h hV;go_enter func116,ntmps116;go_wp2_with fail;go_ret2;exact ⟨zaP HE.out,zbj W _ _⟩
theorem zyn (C V:Array Value) (ms sp m t kind:Int) (D:List UInt8) (W:World) (h:zdT C ms sp) (hV:V.size=3) (k:2<kind):TB 116 #[.agg C,.int .i64 m,.agg V,.int .u64 t,.int .i64 kind] W (zeu (zbr D ms sp m t kind)):=by
 have HE:Hid (zbr D ms sp m t kind=(0,0)):=hid (if_pos (Or.inr k));have g:decide (kind<0)=false:=decide_eq_false (by omega);have g2:decide (2<kind)=true:=decide_eq_true k;have hH:=And.intro h hV;clear hH h hV;go_enter func116,ntmps116;go_wp2_with fail;go_ret2;exact ⟨zaP HE.out,zbj W _ _⟩
theorem zgF (W:World) (C V:Array Value):Box ((W.alloc (.cells C 25)).alloc (.cells V 39)) W.heap.size C∧MBox ((W.alloc (.cells C 25)).alloc (.cells V 39)) (W.heap.size+1) V∧Below W.heap.size W ((W.alloc (.cells C 25)).alloc (.cells V 39)) :=
 ⟨(Box.new W C).alloc _,by
  have e:(W.alloc (.cells C 25)).heap.size=W.heap.size+1:=by simp
  have:=heap_alloc_last (W.alloc (.cells C 25)) (.cells V 39);rw [e] at this;exact this,zbj W _ _⟩
theorem zwx (C V:Array Value) (ms sp m t kind:Int) (D:List UInt8) (W:World) (h:zdT C ms sp) (hV:V.size=3) (M:Int) (h0:0≤kind) (h2:kind≤2) (hM:zdQ ms m kind=M) (k:3≤M):TB 116 #[.agg C,.int .i64 m,.agg V,.int .u64 t,.int .i64 kind] W (zeu (zbr D ms sp m t kind)):=by
 have HE:Hid (zbr D ms sp m t kind=(t,-1)):=hid ((if_neg (by omega)).trans (if_pos (by rw [hM];exact k)));have g:decide (kind<0)=false:=decide_eq_false (by omega);have g2:decide (2<kind)=false:=decide_eq_false (by omega);have f15:=h.f15;have hC:=h.size;have hW:=hid (zgF W C V);have cM:=hid fun W=>zcY C ms sp m kind h W
 clear h;have hV2:=And.intro hV hV;clear hV2 hV
 replace hM:=hid hM
 have g3:decide (3≤M)=true:=decide_eq_true k;go_enter func116,ntmps116;go_wp2_with (first | (with_reducible show wpList _ _ _ (⟨some 24,Op.load 25 (.tmp 5),25,_,_,_⟩ :: _) _ _;refine zaU (by kernel_rfl) rfl (Box.load (hW.out.1) hC) rfl ?_;simp only [Act.put,List.setIfInBounds_toArray,List.set_cons_zero,List.set_cons_succ]) | (go_at_call 160;(with_reducible refine (cM.out _).mono ?_);rintro e' w1 ⟨rfl,k1⟩;rw [hM.out];have c15:=(((hW.out.1).next k1).cell 15).trans f15;have k1:=hid k1));go_ret2;exact ⟨zaP HE.out,zac hW.out.2.2 k1.out⟩
theorem zl5 (C V:Array Value) (ms sp m t kind:Int) (D:List UInt8) (W:World) (h:zdT C ms sp) (hV:V.size=3) (M:Int) (h0:0≤kind) (h2:kind≤2) (hM:zdQ ms m kind=M) (k:¬ 3≤M) (s:(sp / 1152921504606846976 != 8)=true):TB 116 #[.agg C,.int .i64 m,.agg V,.int .u64 t,.int .i64 kind] W (zeu (zbr D ms sp m t kind)):=by
 have HE:Hid (zbr D ms sp m t kind=(t,-1)):=hid ((if_neg (by omega)).trans ((if_neg (by rw [hM];exact k)).trans (if_pos s)));have g:decide (kind<0)=false:=decide_eq_false (by omega);have g2:decide (2<kind)=false:=decide_eq_false (by omega);have f15:=h.f15;have hC:=h.size;have hW:=hid (zgF W C V);have cM:=hid fun W=>zcY C ms sp m kind h W
 clear h;have hV2:=And.intro hV hV;clear hV2 hV
 replace hM:=hid hM
 have g3:decide (3≤M)=false:=decide_eq_false k;go_enter func116,ntmps116;go_wp2_with (first | (with_reducible show wpList _ _ _ (⟨some 24,Op.load 25 (.tmp 5),25,_,_,_⟩ :: _) _ _;refine zaU (by kernel_rfl) rfl (Box.load (hW.out.1) hC) rfl ?_;simp only [Act.put,List.setIfInBounds_toArray,List.set_cons_zero,List.set_cons_succ]) | (go_at_call 160;(with_reducible refine (cM.out _).mono ?_);rintro e' w1 ⟨rfl,k1⟩;rw [hM.out];have c15:=(((hW.out.1).next k1).cell 15).trans f15;have k1:=hid k1));go_ret2;exact ⟨zaP HE.out,zac hW.out.2.2 k1.out⟩
theorem zrM (C V:Array Value) (ms sp m t kind:Int) (D:List UInt8) (W:World) (h:zdT C ms sp) (hV:V.size=3) (M:Int) (h0:0≤kind) (h2:kind≤2) (hM:zdQ ms m kind=M) (k:¬ 3≤M) (s:(sp / 1152921504606846976 != 8)=false) (hS:zfs t=false):TB 116 #[.agg C,.int .i64 m,.agg V,.int .u64 t,.int .i64 kind] W (zeu (zbr D ms sp m t kind)):=by
 have HE:Hid (zbr D ms sp m t kind=(0,zdE kind)):=hid ((if_neg (by omega)).trans ((if_neg (by rw [hM];exact k)).trans ((if_neg (by rw [s];decide)).trans (if_pos hS))));have g:decide (kind<0)=false:=decide_eq_false (by omega);have g2:decide (2<kind)=false:=decide_eq_false (by omega);have f15:=h.f15;have hC:=h.size;have hW:=hid (zgF W C V);have cM:=hid fun W=>zcY C ms sp m kind h W
 clear h;have hV2:=And.intro hV hV;clear hV2 hV
 replace hM:=hid hM
 have g3:decide (3≤M)=false:=decide_eq_false k
 replace hS:=hid hS
 go_enter func116,ntmps116;go_wp2_with (first | (with_reducible show wpList _ _ _ (⟨some 24,Op.load 25 (.tmp 5),25,_,_,_⟩ :: _) _ _;refine zaU (by kernel_rfl) rfl (Box.load (hW.out.1) hC) rfl ?_;simp only [Act.put,List.setIfInBounds_toArray,List.set_cons_zero,List.set_cons_succ]) | (go_at_call 160;(with_reducible refine (cM.out _).mono ?_);rintro e' w1 ⟨rfl,k1⟩;rw [hM.out];have c15:=(((hW.out.1).next k1).cell 15).trans f15;have k1:=hid k1) | (go_at_call 161;(with_reducible refine (zhi t _).mono ?_);rintro e' w' ⟨rfl,rfl⟩;rw [hS.out]) | (go_at_call 162;(with_reducible refine (zdt kind h0 h2 _).mono ?_);rintro e' w' ⟨rfl,rfl⟩));go_ret2;exact ⟨zaP HE.out,zac hW.out.2.2 k1.out⟩
end Go.Proofs.YtplcfdnfeclpmaaGreatDoor.Wk
