/- MachineOn, part 29. -/
import Derived.Test.YtplcfdnfeclpmaaGreatDoorV04
import Derived.Test.YtplcfdnfeclpmaaGreatDoorV20
import Derived.Test.YtplcfdnfeclpmaaGreatDoorV21
import Derived.Test.YtplcfdnfeclpmaaGreatDoorV23
import Derived.Test.YtplcfdnfeclpmaaGreatDoorV28
set_option maxHeartbeats 4000000
set_option maxRecDepth 100000
open Go.Lib (hid)
namespace Go.Proofs.YtplcfdnfeclpmaaGreatDoor
open Go.RowKit Go.Deep Go.Joins
theorem Chg.trans {W w W':World} {z:Nat} {m:Mc} (h:Chg w W' z m) (hb:Below W.heap.size W w):Chg W W' z m:=by
 obtain ⟨wx,h1,h2⟩:=h;exact ⟨wx,zac hb h1,h2⟩
theorem Did.board {W W':World} {B z:Nat} {m:Mc} {p:Pt} {b:Bd} (K:MS W B z m p) (hf:b.fp=m.b.fp∧b.fn=m.b.fn∧b.fc=m.b.fc) (h:Chg W W' z { m with b:=b }):Did W W' B z m { m with b:=b } p:=by
 obtain ⟨h1,h2,h3⟩:=hf;have e:b.at b.fp p.F.length b.fc=b:=by rw [← K.len,← h2];rfl
 obtain ⟨wx,hb,hw⟩:=h;have k:=K.next hb;refine ⟨b.fp,b.fc,m.dv,m.mv,m.ov,?_,(zcr hb (Ow m z)).trans (by subst hw;exact (zau.refl wx (Ow m z)).setRow (.inl (.inl rfl)) _),?_⟩
 ·show MS W' B z { m with b:=b.at b.fp p.F.length b.fc } p
  rw [e];have ne:∀ g,g≠z→W'.heap[g]?=wx.heap[g]?:=fun g hg=>by subst hw;exact setRow_other wx z g _ hg
  refine ⟨k.box.put hw,k.big,?_,zbW k.d fun g hg=>ne g fun x=>zb8 k.d k.box (by decide) (by rw [hg,x]),zbW k.mm fun g hg=>ne g fun x=>zb8 k.mm k.box (by decide) (by rw [hg,x]),zbW k.o fun g hg=>ne g fun x=>zb8 k.o k.box (by decide) (by rw [hg,x])⟩
  show FT W' B (.slice b.fp b.fn b.fc) p.F
  rw [h1,h2,h3];refine k.fr.keep fun g cur _ hg=>ne g fun x=>?_
  subst x;have:=hg.symm.trans k.box
  simp at this
 ·show ∀ k,Ow { m with b:=b.at b.fp p.F.length b.fc } z k→_
  rw [e];intro k hk
  left
  unfold Ow at hk ⊢;rw [← h1,← h2,← h3];exact hk
def ldM (m:Mc) (p:Pt) (t s:Int):Mc × Pt × Int × Bool :=
 if stE p.D.length t s=0 then (m,p,ldV p.D t s,true)
 else if ofB t=true then
  if (Pc.ldF m.b.pl (zbB m.b p.F) t s).2.2=true then ({ m with b:={ m.b with pl:=(Pc.ldF m.b.pl (zbB m.b p.F) t s).1 } },p,(Pc.ldF m.b.pl (zbB m.b p.F) t s).2.1,true) else (m,p,0,false)
 else if (ldF m.b p.F t s m.cnt).2.2.2=true then ({ m with b:=(ldF m.b p.F t s m.cnt).1 },{ p with F:=(ldF m.b p.F t s m.cnt).2.1 },(ldF m.b p.F t s m.cnt).2.2.1,true) else (m,p,0,false)
theorem zaf {α:Type} (P:α→Prop) (c:Prop) [Decidable c] (a b:α) (ha:P a) (hb:P b):P (if c then a else b):=by split <;> assumption
theorem zm2 (b:Bd) (F:List ByteArray) (t s n:Int):(ldF b F t s n).2.2.2=true∨ldF b F t s n=(bdZ,[],0,false):=by
 show (fun R:Bd × List ByteArray × Int × Bool=>R.2.2.2=true∨R=(bdZ,[],0,false)) (ldF b F t s n)
 unfold ldF
 repeat refine zaf (fun R:Bd × List ByteArray × Int × Bool=>R.2.2.2=true∨R=(bdZ,[],0,false)) _ _ _ (Or.inl rfl) ?_
 exact Or.inr rfl
theorem zka {f:FuncId} {args:Array Value} {w:World} {b:Bd} {F:List ByteArray} {n:Int} {g:Bool} (h:Calls Tryz.prog f args w (Told w b F (fun v=>.tuple #[v,.int .u64 n,.bool g]))):Calls Tryz.prog f args w fun e w'=>∃ u,e=.returned u∧(∃ p c,u=.tuple #[bdV (b.at p F.length c),.int .u64 n,.bool g]∧OwnF w' w.heap.size (.slice p F.length c) F∧Below w.heap.size w w') :=
 h.mono fun _ _ ⟨p,c,he,ho,hb⟩=>⟨_,he,p,c,rfl,ho,hb⟩
theorem zys (b:Bd) (F:List ByteArray) (t s n:Int) (hf:(ldF b F t s n).2.2.2=false):(ldF b F t s n).2.2.1=0:=by
 rcases zm2 b F t s n with h | h
 ·rw [h] at hf;cases hf
 ·rw [h]
theorem zzs (z B:Nat) (m:Mc) (p:Pt) (t s:Int) (W:World) (K:MS W B z m p) (hB:B≤W.heap.size) (ok:POk m p) (ht0:0≤t) (ht1:t≤18446744073709551615):Calls Tryz.prog 103 #[.pointer (some ⟨z,0,none⟩),.int .u64 t,.int .i64 s] W fun e W' =>
  e=.returned (.tuple #[.int .u64 (ldM m p t s).2.2.1,.bool (ldM m p t s).2.2.2])∧Did W W' B z m (ldM m p t s).1 (ldM m p t s).2.1:=by
 have C0:=hid (fun W' (h:Below W.heap.size W W')=>zi6 m.dv m.mv (.int .u64 m.E) p.D t s W' ((K.next h).d.at) ht0 ht1);have X:=hid (Mem.start W);have HK:=hid K;have HO:=hid ok;have HB:=hid hB;unfold ldM
 by_cases h0:stE p.D.length t s=0
 ·simp only [if_pos h0]
  rw [h0] at C0;generalize ldV p.D t s=n at C0 ⊢;clear ht0 ht1 ok K hB h0;go_enter Tryz.func103,Tryz.ntmps103;go_wp2_with (first | (with_reducible refine zaa rfl rfl (MBox.load_ram HK.out.box) rfl ?_) | (go_at_call 138;(with_reducible refine (C0.out _ X.out.below).mono ?_);rintro e wb ⟨rfl,kk⟩;have X:=hid (X.out.next kk);clear kk));go_ret2;exact ⟨rfl,Did.none HK.out X.out.below⟩
 ·simp only [if_neg h0]
  have h1:(stE p.D.length t s==0)=false:=beq_eq_false_iff_ne.2 h0;generalize stE p.D.length t s=e0 at C0 h1;generalize ldV p.D t s=n0 at C0;have C1:=hid (zjn t)
  by_cases h2:ofB t=true
  ·simp only [if_pos h2]
   rw [h2] at C1;have C2:=hid (fun W' (h:Below W.heap.size W W')=>zmp z m p.F t s W' (K.next h).box K.len);have HN:=hid (ziL m.b.pl (zbB m.b p.F) t s);generalize Pc.ldF m.b.pl (zbB m.b p.F) t s=R at C2 HN ⊢;obtain ⟨q,n,g⟩:=R;dsimp only at C2 HN ⊢;clear ht0 ht1 ok K hB h0 h2;cases g
   ·obtain rfl:n=0:=HN.out rfl
    clear HN;simp only [Bool.false_eq_true,if_false] at C2 ⊢;go_enter Tryz.func103,Tryz.ntmps103;go_wp2_with (first | (with_reducible refine zaa rfl rfl (MBox.load_ram HK.out.box) rfl ?_) | (go_at_call 138;(with_reducible refine (C0.out _ X.out.below).mono ?_);rintro e wb ⟨rfl,kk⟩;have X:=hid (X.out.next kk);clear kk) | (go_at_call 139;(with_reducible refine (C1.out _).mono ?_);rintro e wc ⟨rfl,rfl⟩) | (go_at_call 140;(with_reducible refine (C2.out _ X.out.below).mono ?_);rintro e wd ⟨rfl,kk⟩;have HC:=hid (kk.trans X.out.below);clear kk));go_ret2;exact ⟨rfl,Did.board (b:=m.b) HK.out ⟨rfl,rfl,rfl⟩ HC.out⟩
   ·clear HN
    simp only [if_true] at C2 ⊢;go_enter Tryz.func103,Tryz.ntmps103;go_wp2_with (first | (with_reducible refine zaa rfl rfl (MBox.load_ram HK.out.box) rfl ?_) | (go_at_call 138;(with_reducible refine (C0.out _ X.out.below).mono ?_);rintro e wb ⟨rfl,kk⟩;have X:=hid (X.out.next kk);clear kk) | (go_at_call 139;(with_reducible refine (C1.out _).mono ?_);rintro e wc ⟨rfl,rfl⟩) | (go_at_call 140;(with_reducible refine (C2.out _ X.out.below).mono ?_);rintro e wd ⟨rfl,kk⟩;have HC:=hid (kk.trans X.out.below);clear kk));go_ret2;exact ⟨rfl,Did.board (b:={ m.b with pl:=q }) HK.out ⟨rfl,rfl,rfl⟩ HC.out⟩
  ·simp only [if_neg h2]
   have h3:ofB t=false:=by simpa using h2
   rw [h3] at C1;have C2:=hid (fun W' (h:Below W.heap.size W W')=>ztG m.b p.F t s m.cnt W' ((K.next h).fr.rd) ok.fl);have HN:=hid (zys m.b p.F t s m.cnt);generalize ldF m.b p.F t s m.cnt=R at C2 HN ⊢;obtain ⟨b',F',n,g⟩:=R;dsimp only at C2 HN ⊢;clear ht0 ht1 ok K hB h0 h2 h3;have HX:Hid (g=true∨(g=false∧n=0)):=hid (by cases g;exact .inr ⟨rfl,HN.out rfl⟩;exact .inl rfl);clear HN;generalize hR:(if g=true then (({ m with b:=b' },{ p with F:=F' },n,true):Mc × Pt × Int × Bool) else (m,p,0,false))=R;have HR:=hid hR;clear hR;go_enter Tryz.func103,Tryz.ntmps103;go_upto_region 8 with (first | (with_reducible refine zaa rfl rfl (MBox.load_ram HK.out.box) rfl ?_) | (go_at_call 138;(with_reducible refine (C0.out _ X.out.below).mono ?_);rintro e wb ⟨rfl,kk⟩;have X:=hid (X.out.next kk);clear kk) | (go_at_call 139;(with_reducible refine (C1.out _).mono ?_);rintro e wc ⟨rfl,rfl⟩))
   go_cut [8,10,11] (fun s8 s10 s11 wx=>∃ x q c,s8=.int .u64 n∧s10=.pointer (some ⟨x,0,none⟩)∧s11=.bool g∧Hid (Mem W wx [(x,bdC (b'.at q F'.length c),35)] [(9,.slice q F'.length c,F'.length,sC F')]))
   case first =>
    refine dr (fun w=>MBox w z m) fun wz hzz=>?_
    have X:=hid (X.out.next hzz);clear hzz;have hS:=HK.out.box.next X.out.below;refine tk 0 hS ?_
    refine tk 1 hS ?_
    refine tk 2 hS ?_
    refine tl 3 hS (fun w hw=>MBox.load_b hw) ?_
    refine tk 4 hS ?_
    refine tk 5 hS ?_
    refine tk 6 hS ?_
    refine tk 7 hS ?_
    refine tk 8 hS ?_
    refine tl 9 hS (fun w hw=>MBox.load_cnt hw) ?_
    refine two 10 15 (cc 10 (zka (C2.out _ X.out.below)) ?_ ?_)
    ·rintro v' wb ⟨q,c,rfl,ho',kk⟩
     have X:=hid ((X.out.next kk).addrow ho' X.out.below.size (by decide));refine ⟨HK.out.box.next X.out.below,fun hS=>?_⟩
     clear kk ho';simp only [puts];refine tk 11 hS ?_
     refine tk 12 hS ?_
     refine tk 13 hS ?_
     refine tk 14 hS ?_
     refine ho 15 (HK.out.box.next X.out.newZ.below) ?_
     have X:=hid X.out.newZ;generalize wb.heap.size=x at X ⊢;generalize wb.alloc zaj=wn at X ⊢;have hS:=HK.out.box.next X.out.below;refine hs 16 (zaY _ _ _ _ X.out.b0 (zaN _)) fun wy hw=>?_
     have X:=hid (X.out.p0 hw);refine ⟨HK.out.box.next X.out.below,fun hS=>?_⟩
     clear hw;refine tk 17 hS ?_
     refine tk 18 hS ?_
     refine wpAnyH_done (by kernel_rfl) ?_ _
     go_wp2_with fail
     go_meet
     exact ⟨_,q,c,rfl,rfl,rfl,X⟩
    ·refine al 15 (HK.out.box.next X.out.newZ.below) ?_ AllReadyH.nil
     have X:=hid X.out.newZ;generalize wz.heap.size=x at X ⊢;generalize wz.alloc zaj=wn at X ⊢;have hS:=HK.out.box.next X.out.below;refine hc 10 (zka (C2.out _ X.out.below)) ?_
     rintro v' wb ⟨q,c,rfl,ho',kk⟩
     have X:=hid ((X.out.next kk).addrow ho' X.out.below.size (by decide));refine ⟨HK.out.box.next X.out.below,fun hS=>?_⟩
     clear kk ho';simp only [puts];refine tk 11 hS ?_
     refine tk 12 hS ?_
     refine tk 13 hS ?_
     refine tk 14 hS ?_
     refine hs 16 (zaY _ _ _ _ X.out.b0 (zaN _)) fun wy hw=>?_
     have X:=hid (X.out.p0 hw);refine ⟨HK.out.box.next X.out.below,fun hS=>?_⟩
     clear hw;refine tk 17 hS ?_
     refine tk 18 hS ?_
     refine wpAnyH_done (by kernel_rfl) ?_ _
     go_wp2_with fail
     go_meet
     exact ⟨_,q,c,rfl,rfl,rfl,X⟩
   case rest =>
    obtain ⟨x,q,c,rfl,rfl,rfl,X⟩:=hcut;have hR:=HR.out;rcases HX.out with rfl | ⟨rfl,rfl⟩
    ·simp only [if_true] at hR
     subst hR;have hS:=HK.out.box.next X.out.below;go_wp2_with (with_reducible first | refine zaa rfl rfl (Box.load X.out.b0) rfl ?_ | refine zan rfl rfl (MBox.store_b hS (b'.at q F'.length c)) rfl rfl ?_);go_ret2;exact ⟨rfl,Did.frames HK.out HB.out X.out.below X.out.r0 rfl⟩
    ·simp only [Bool.false_eq_true,if_false] at hR
     subst hR;go_wp2_with fail;go_ret2;exact ⟨rfl,Did.none HK.out X.out.below⟩
end Go.Proofs.YtplcfdnfeclpmaaGreatDoor
namespace Go
open Go.RowKit Go.Deep Go.Joins
section
variable {P : Program} {md : Region.Mode} {ops : Array Oper} {Q : Exit → Act → World → Prop} {S : World → Prop} {k : Nat}
def zcG (P:Program) (md:Region.Mode) (ops:Array Oper) (Q:Exit→Act→World→Prop) (S:World→Prop) (k:Nat):Nat→Array Bool→Act→World→Prop
 | 0,listed,a,w=>Region.ready md ops listed=[]∧Q .normal a w
 | fuel+1,listed,a,w =>
  (Region.ready md ops listed=[]→Q .normal a w) ∧
  ∀ i∈Region.ready md ops listed,wpOp P ops Q i (fun a' w'=>(i≠k→S w')∧zcG P md ops Q S k fuel (listed.setIfInBounds i true) a' w') a w
theorem zk9:∀ (fuel:Nat) (listed:Array Bool) (a:Act) (w:World),zcG P md ops Q S k fuel listed a w→wpAny P md ops Q fuel listed a w
 | 0,_,_,_,h=>h
 | fuel+1,_,_,_,h=>⟨h.1,fun i hi=>wpOp_mono (fun a' w' h'=>zk9 fuel _ a' w' h'.2) (h.2 i hi)⟩
def Region.waits (md:Region.Mode) (ops:Array Oper) (k i:Nat):Bool:=match ops[k]? with
 | some o=>o.after.any fun e=>Region.binds md e && e.on==i
 | none=>true
theorem zxL {i:Nat} {listed:Array Bool} (h:Region.waits md ops k i=true) (hi:listed.getD i true=false):k ∉ Region.ready md ops listed:=fun hk=>by
 obtain ⟨_,o,ho,hall⟩:=mem_ready.1 hk;unfold Region.waits at h;rw [ho] at h;obtain ⟨e,he,hb⟩:=Array.any_eq_true'.1 h;rw [Bool.and_eq_true,beq_iff_eq] at hb;have h1:=hall e he hb.1;rw [hb.2] at h1;rcases Nat.lt_or_ge i listed.size with h' | h'
 ·simp [h'] at hi h1;rw [hi] at h1;cases h1
 ·simp [Array.getElem?_eq_none h'] at h1
theorem zkm {i:Nat} {oi:Oper} {v:Value} (hi:ops[i]?=some oi) (hsel:∀ (j:Nat) (o:Oper) cs b,ops[j]?=some o→o.op≠.select cs b)
  (hQ:∀ c a w,Q (.panic c) (a.put oi.dst v) w→Q (.panic c) a w) (hk:Region.waits md ops k i=true) :
  ∀ (fuel:Nat) (listed:Array Bool) (a:Act) (w:World),
   (∀ j oj,ops[j]?=some oj→j≠i→listed.getD j true=false→(∀ e∈oj.after,Region.binds md e=true→e.on≠i)→oi.apart ops oj=true) →
   i∈Region.ready md ops listed→YieldsIf P ops S oi v a→S w →
   zcG P md ops Q S k fuel (listed.setIfInBounds i true) (a.put oi.dst v) w→zcG P md ops Q S k (fuel+1) listed a w:=by
 intro fuel
 induction fuel with
 | zero =>
  intro listed a w _ hr hy hS H;refine ⟨fun h=>(by rw [h] at hr;cases hr),fun j hj=>?_⟩
  by_cases hji:j=i
  ·subst hji;exact hy.wpOp hi hS ⟨fun _=>hS,H⟩
  ·have:=ready_mono hj hji
   rw [H.1] at this;cases this
 | succ fuel ih =>
  intro listed a w hfree hr hy hS H;refine ⟨fun h=>(by rw [h] at hr;cases hr),fun j hj=>?_⟩
  by_cases hji:j=i
  ·subst hji;exact hy.wpOp hi hS ⟨fun _=>hS,H⟩
  ·have hjk:j≠k:=fun e=>zxL hk (mem_ready.1 hr).1 (e ▸ hj)
   have h1:=H.2 j (ready_mono hj hji);obtain ⟨hjun,oj,hoj,hall⟩:=mem_ready.1 hj
   have hnot:∀ e∈oj.after,Region.binds md e=true→e.on≠i:=fun e he hb heq=>by
    have h1:=hall e he hb;have h0:=(mem_ready.1 hr).1;rw [heq] at h1;rcases Nat.lt_or_ge i listed.size with h' | h'
    ·simp [h'] at h0 h1;rw [h0] at h1;cases h1
    ·simp [Array.getElem?_eq_none h'] at h1
   have h2:=wpOp_putIf hoj (hfree j oj hoj hji hjun hnot) (fun cs b=>hsel i oi cs b hi) (fun cs b=>hsel j oj cs b hoj) hQ hy h1
   have hfree':∀ l ol,ops[l]?=some ol→l≠i→(listed.setIfInBounds j true).getD l true=false →
     (∀ e∈ol.after,Region.binds md e=true→e.on≠i)→oi.apart ops ol=true:=fun l ol hl hli hun hno=>by
    refine hfree l ol hl hli ?_ hno
    by_cases hjl:j=l
    ·subst hjl;exact hjun
    ·rw [getD_set_ne true hjl] at hun;exact hun
   refine wpOp_mono (fun a' w' h3=>⟨h3.2.1,ih (listed.setIfInBounds j true) a' w' hfree' (ready_mono hr (Ne.symm hji)) h3.1 (h3.2.1 hjk) ?_⟩) h2
   rw [Array.setIfInBounds_comm _ _ hji];exact h3.2.2
variable {fuel : Nat} {listed : Array Bool} {a a' : Act} {w w' : World} {o : Oper} {v : Value} {t : TypeId} {p x : Operand} {u : Value}
theorem zlq {i:Nat} (hr:Region.ready md ops listed=[i]) (hi:ops[i]?=some o) (h:∀ K':Act→World→Prop,(∀ a w,(i≠k→S w)→zcG P md ops Q S k fuel (listed.setIfInBounds i true) a w→K' a w)→if Region.wanted o (yielded ops a.tmps)=true then Oper.wp P o a w K' Q else K' (a.put o.dst undef) w) :
  zcG P md ops Q S k (fuel+1) listed a w :=
 ⟨fun h0=>(by rw [hr] at h0;cases h0),fun j hj=>by
  rw [hr,List.mem_singleton] at hj;subst hj;exact wpOp_step hi (fun K' hK=>h K' (fun a w hS hW=>hK a w ⟨hS,hW⟩))⟩
theorem tkK (i:Nat) (hS:S w) (h:zcG P md ops Q S k fuel (listed.setIfInBounds i true) a' w) (hi:ops[i]?=some o:=by (simp only [nths];exact rfl))
  (hs:Region.noSelect ops=true:=by kernel_rfl) (hf:Region.free md ops listed i=true:=by kernel_rfl) (hr:(Region.ready md ops listed).contains i=true:=by kernel_rfl) (hk:Region.waits md ops k i=true:=by kernel_rfl)
  (hQ:∀ c a w,Q (.panic c) (a.put o.dst v) w→Q (.panic c) a w:=by exact fun _ _ _ h=>h)
  (hy:YieldsIf P ops S o v a:=by first | exact Or.inr ⟨by rfl,rfl⟩ | (refine Or.inl ⟨by rfl,?_⟩;intro w hSw;(try dsimp only at hSw);(try obtain ⟨_,_⟩:=hSw);go_simp;try with_reducible rfl))
  (ha:a.put o.dst v=a':=by (simp only [puts];exact rfl)):zcG P md ops Q S k (fuel+1) listed a w:=by
 subst ha;exact zkm hi (Region.noSelect_spec hs) hQ hk fuel listed a w (Region.free_spec hi hf) (by simpa using hr) hy hS h
theorem tlK (i:Nat) (hS:S w) (hl:∀ w,S w→(Instr.loadAt t u).run P w=.ok v w) (h:zcG P md ops Q S k fuel (listed.setIfInBounds i true) a' w) (hi:ops[i]?=some o:=by (simp only [nths];exact rfl)) (ho:o.op=.load t p:=by rfl) (hp:a.eval p=u:=by rfl)
  (hs:Region.noSelect ops=true:=by kernel_rfl) (hf:Region.free md ops listed i=true:=by kernel_rfl) (hr:(Region.ready md ops listed).contains i=true:=by kernel_rfl) (hk:Region.waits md ops k i=true:=by kernel_rfl)
  (hQ:∀ c a w,Q (.panic c) (a.put o.dst v) w→Q (.panic c) a w:=by exact fun _ _ _ h=>h)
  (hg:Region.wanted o (yielded ops a.tmps)=true:=by kernel_rfl)
  (ha:a.put o.dst v=a':=by (simp only [puts];exact rfl)):zcG P md ops Q S k (fuel+1) listed a w:=by
 subst ha;exact zkm hi (Region.noSelect_spec hs) hQ hk fuel listed a w (Region.free_spec hi hf) (by simpa using hr) (.inl ⟨hg,fun w hw=>zbg ho (hl w hw) hp⟩) hS h
theorem hoK (i:Nat) (hrun:(execOp a.eval o).run P w=.ok (.value v) w') (hS:S w') (h:zcG P md ops Q S k fuel (listed.setIfInBounds i true) a' w') (hi:ops[i]?=some o:=by (simp only [nths];exact rfl)) (hr:Region.ready md ops listed=[i]:=by kernel_rfl) (hg:o.guard=none:=by rfl)
  (ha:a.put o.dst v=a':=by (simp only [puts];exact rfl)):zcG P md ops Q S k (fuel+1) listed a w:=by
 subst ha;refine zlq hr hi fun K' hK=>?_
 simp only [Region.wanted,hg,if_true];unfold Oper.wp;rw [hrun];exact hK _ _ (fun _=>hS) h
theorem hsK (hrun:(Instr.storeAt t u v).run P w=.ok () w') (h:∀ wy,wy=w'→zcG P md ops Q S k fuel (listed.setIfInBounds k true) a' wy) (hi:ops[k]?=some o:=by (simp only [nths];exact rfl)) (ho:o.op=.store t p x:=by rfl) (hp:a.eval p=u:=by rfl) (hx:a.eval x=v:=by rfl)
  (hr:Region.ready md ops listed=[k]:=by kernel_rfl) (hg:o.guard=none:=by rfl) (ha:a.put o.dst undef=a':=by (simp only [puts];exact rfl)):zcG P md ops Q S k (fuel+1) listed a w:=by
 subst ha;refine zlq hr hi fun K' hK=>?_
 simp only [Region.wanted,hg,if_true];unfold Oper.wp
 simp [execOp,ho,hp,hx,hrun,Result.andThen]
 exact hK _ _ (fun hne=>absurd rfl hne) (h _ rfl)
theorem zko {listed:Array Bool} {a:Act} {w:World} (h:Q .normal a w) (hr:Region.ready md ops listed=[]:=by kernel_rfl):∀ fuel,zcG P md ops Q S k fuel listed a w
 | 0=>⟨hr,h⟩
 | _+1=>⟨fun _=>h,by rw [hr];simp⟩
theorem drK {id:Nat} (S:World→Prop) (k:Nat) (h:∀ wz,Below w.heap.size w wz→zcG P .any ops Q S k ops.size (Array.replicate ops.size false) a wz) (hm:P.follows .mixedOrders=true:=by kernel_rfl):(Code.region id ops true).wp P Q a w :=
 wp_region_any hm (zk9 _ _ _ _ (h w.drew (Below.refl _ _).drew))
end
theorem zkT {P:Program} {ρ:Operand→Value} {o:Oper} {t:TypeId} {s x:Operand} {v u r:Value} {w w':World} (ho:o.op=.call { callee:=.builtin .append,args:=#[s,x],argTypes:=#[t,t] }) (hs:ρ s=v) (hx:ρ x=u)
  (hrun:(Builtin.append_ #[t,t] o.type #[v,u]).run P w=.ok r w'):(execOp ρ o).run P w=.ok (.value r) w':=by
 simp [execOp,ho,resolve,invoke,builtin,hs,hx,hrun,Result.andThen]
end Go
