/- MachineOn, part 31. -/
import Derived.Test.YtplcfdnfeclpmaaGreatDoorV19
import Derived.Test.YtplcfdnfeclpmaaGreatDoorV23
import Derived.Test.YtplcfdnfeclpmaaGreatDoorV30
set_option maxHeartbeats 4000000
set_option maxRecDepth 100000
open Go.Lib (hid)
open Go Go.RowKit Go.Deep Go.Joins Go.Proofs.Tryz
namespace Go.Proofs.YtplcfdnfeclpmaaGreatDoor
theorem zjk (b:Bd) (q:Option Addr) (n c:Nat) (F:List ByteArray) (E:Int) (D:List UInt8) (M:List Int) (k:Int) (es:ByteArray):actF (b.at q n c) F E D M k es={ actF b F E D M k es with b:=(actF b F E D M k es).b.at q n c }:=by
 unfold actF
 by_cases h1:k=1
 ·simp only [if_pos h1]
 simp only [if_neg h1]
 by_cases h2:k=2
 ·simp only [if_pos h2]
  by_cases h:16≤b.sector
  ·rw [if_pos h,if_pos (show 16≤(b.at q n c).sector from h)];rfl
  ·rw [if_neg h,if_neg (show ¬ 16≤(b.at q n c).sector from h)];rfl
 simp only [if_neg h2]
 by_cases h3:k=3
 ·simp only [if_pos h3]
  by_cases h:16≤b.sector∨zb0 D.length b.addr 64≠0
  ·rw [if_pos h,if_pos (show 16≤(b.at q n c).sector∨zb0 D.length (b.at q n c).addr 64≠0 from h)];rfl
  ·rw [if_neg h,if_neg (show ¬ (16≤(b.at q n c).sector∨zb0 D.length (b.at q n c).addr 64≠0) from h)]
   by_cases hb:hasB b=true
   ·rw [if_pos hb,if_pos (show hasB (b.at q n c)=true from hb)];rfl
   ·rw [if_neg hb,if_neg (show ¬ hasB (b.at q n c)=true from hb)];rfl
 simp only [if_neg h3]
 by_cases h4:k=4
 ·simp only [if_pos h4]
  by_cases h:0<F.length
  ·simp only [dif_pos h];rfl
  ·simp only [dif_neg h]
 simp only [if_neg h4]
 by_cases h5:k=5
 ·simp only [if_pos h5];rfl
 ·simp only [if_neg h5]
theorem Did.act {W W1 W2:World} {B z:Nat} {m:Mc} {p:Pt} {b:Bd} {F:List ByteArray} {k:Int} {es:ByteArray} {q:Option Addr} {c:Nat} (h:zau W W1 (Ow m z)) (ho:∀ x,Ow { m with b:=b.at q F.length c } z x→Ow m z x∨W.heap.size≤x)
  (h2:Did W1 W2 B z { m with b:=b.at q F.length c } (acM { m with b:=b.at q F.length c } { p with F:=F } k es).1 (acM { m with b:=b.at q F.length c } { p with F:=F } k es).2):Did W W2 B z m (acM { m with b:=b } { p with F:=F } k es).1 (acM { m with b:=b } { p with F:=F } k es).2:=by
 have e:∀ (x:Bd),(acM { m with b:=b.at q F.length c } { p with F:=F } k es).2=(acM { m with b:=b } { p with F:=F } k es).2∧∀ q' n' c' dv mv ov,({ (acM { m with b:=b.at q F.length c } { p with F:=F } k es).1 with b:=(acM { m with b:=b.at q F.length c } { p with F:=F } k es).1.b.at q' n' c',dv:=dv,mv:=mv,ov:=ov }:Mc)={ (acM { m with b:=b } { p with F:=F } k es).1 with b:=(acM { m with b:=b } { p with F:=F } k es).1.b.at q' n' c',dv:=dv,mv:=mv,ov:=ov }:=fun _=>by
  unfold acM;simp only [zjk];cases (actF b F m.E p.D p.M k es).ok <;> exact ⟨rfl,fun _ _ _ _ _ _=>rfl⟩
 obtain ⟨e1,e2⟩:=e b;obtain ⟨q',c',dv,mv,ov,hm,ht,hk⟩:=h2;rw [e1,e2] at hm hk;refine ⟨q',c',dv,mv,ov,hm,h.trans' ht fun x hx hS=>?_,fun x hx=>?_⟩
 ·rcases ho x hS with h | h
  ·exact h
  ·omega
 ·rcases hk x hx with h' | h'
  ·exact ho x h'
  ·exact .inr (Nat.le_trans h.size h')
theorem zjG (b:Bd) (F:List ByteArray) (t s v:Int) (hv:0≤v∧v≤18446744073709551615) (ok:BdOk b) (h:(stF b F t s v).2.2.2.2=true):BdOk (stF b F t s v).1∧(stF b F t s v).1.pl=b.pl∧(stF b F t s v).2.1=F:=by
 revert h
 show (fun R:Bd × List ByteArray × Int × ByteArray × Bool=>R.2.2.2.2=true→BdOk R.1∧R.1.pl=b.pl∧R.2.1=F) (stF b F t s v)
 unfold stF;refine zaf (fun R:Bd × List ByteArray × Int × ByteArray × Bool=>R.2.2.2.2=true→BdOk R.1∧R.1.pl=b.pl∧R.2.1=F) _ _ _ (fun _=>⟨⟨ok.addr,ok.nicA,ok.sector⟩,rfl,rfl⟩) ?_
 refine zaf (fun R:Bd × List ByteArray × Int × ByteArray × Bool=>R.2.2.2.2=true→BdOk R.1∧R.1.pl=b.pl∧R.2.1=F) _ _ _ (fun _=>⟨⟨ok.addr,ok.nicA,ok.sector⟩,rfl,rfl⟩) ?_
 refine zaf (fun R:Bd × List ByteArray × Int × ByteArray × Bool=>R.2.2.2.2=true→BdOk R.1∧R.1.pl=b.pl∧R.2.1=F) _ _ _ (fun _=>⟨⟨ok.addr,ok.nicA,ok.sector⟩,rfl,rfl⟩) ?_
 refine zaf (fun R:Bd × List ByteArray × Int × ByteArray × Bool=>R.2.2.2.2=true→BdOk R.1∧R.1.pl=b.pl∧R.2.1=F) _ _ _ (fun _=>⟨⟨ok.addr,ok.nicA,ok.sector⟩,rfl,rfl⟩) ?_
 refine zaf (fun R:Bd × List ByteArray × Int × ByteArray × Bool=>R.2.2.2.2=true→BdOk R.1∧R.1.pl=b.pl∧R.2.1=F) _ _ _ (fun _=>⟨⟨ok.addr,ok.nicA,hv⟩,rfl,rfl⟩) ?_
 refine zaf (fun R:Bd × List ByteArray × Int × ByteArray × Bool=>R.2.2.2.2=true→BdOk R.1∧R.1.pl=b.pl∧R.2.1=F) _ _ _ (fun _=>⟨⟨hv,ok.nicA,ok.sector⟩,rfl,rfl⟩) ?_
 refine zaf (fun R:Bd × List ByteArray × Int × ByteArray × Bool=>R.2.2.2.2=true→BdOk R.1∧R.1.pl=b.pl∧R.2.1=F) _ _ _ (fun _=>⟨⟨ok.addr,ok.nicA,ok.sector⟩,rfl,rfl⟩) ?_
 refine zaf (fun R:Bd × List ByteArray × Int × ByteArray × Bool=>R.2.2.2.2=true→BdOk R.1∧R.1.pl=b.pl∧R.2.1=F) _ _ _ (fun _=>⟨⟨ok.addr,hv,ok.sector⟩,rfl,rfl⟩) ?_
 refine zaf (fun R:Bd × List ByteArray × Int × ByteArray × Bool=>R.2.2.2.2=true→BdOk R.1∧R.1.pl=b.pl∧R.2.1=F) _ _ _ (fun _=>⟨⟨ok.addr,ok.nicA,ok.sector⟩,rfl,rfl⟩) ?_
 refine zaf (fun R:Bd × List ByteArray × Int × ByteArray × Bool=>R.2.2.2.2=true→BdOk R.1∧R.1.pl=b.pl∧R.2.1=F) _ _ _ (fun _=>⟨⟨ok.addr,ok.nicA,ok.sector⟩,rfl,rfl⟩) ?_
 exact fun h=>by cases h
def stM (m:Mc) (p:Pt) (t s v:Int):Mc × Pt × Bool :=
 if okB s=false then (m,p,false)
 else if putB p.D.length t (zd0 v.toNat s.toNat)=true then (m,{ p with D:=putD p.D t (zd0 v.toNat s.toNat),M:=putM p.D.length p.M m.E t (zd0 v.toNat s.toNat) },true)
 else if ofB t=true then
  if (Pc.stF m.b.pl t s v).2=true then ({ m with b:={ m.b with pl:=(Pc.stF m.b.pl t s v).1 } },p,true) else (m,p,false)
 else if (stF m.b p.F t s v).2.2.2.2=true then
  if (stF m.b p.F t s v).2.2.1=0 then ({ m with b:=(stF m.b p.F t s v).1 },{ p with F:=(stF m.b p.F t s v).2.1 },true)
  else ((acM { m with b:=(stF m.b p.F t s v).1 } { p with F:=(stF m.b p.F t s v).2.1 } (stF m.b p.F t s v).2.2.1 (stF m.b p.F t s v).2.2.2.1).1,(acM { m with b:=(stF m.b p.F t s v).1 } { p with F:=(stF m.b p.F t s v).2.1 } (stF m.b p.F t s v).2.2.1 (stF m.b p.F t s v).2.2.2.1).2,true)
 else (m,p,false)
theorem zkD {f:FuncId} {args:Array Value} {w:World} {B z o:Nat} {dv mv:Value} {E t:Int} {D:List UInt8} {M:List Int} {s:ByteArray} (h:Calls Tryz.prog f args w (Put w B z o dv mv E D M t s)):Calls Tryz.prog f args w fun e w'=>∃ u,e=.returned u∧(u=.bool (putB D.length t s)∧zdr w w' B z o dv mv E (putD D t s) (putM D.length M E t s)):=h.mono fun _ _ h=>⟨_,h.1,rfl,h.2⟩
theorem zrF {n:Nat} {t:Int} {s:ByteArray} {D:List UInt8} {M:List Int} {E:Int} (h:putB n t s=false):(D.length=n→putD D t s=D)∧putM n M E t s=M:=by
 unfold putB at h;rw [Bool.or_eq_false_iff] at h;refine ⟨fun e=>?_,?_⟩
 ·unfold putD
  rw [if_neg (by rw [e,h.2];simp)]
 ·unfold putM
  rw [if_neg (by rw [h.2];simp)]
theorem zsH {W W':World} {B z:Nat} {m:Mc} {p:Pt} {t:Int} {s:ByteArray} (hf:putB p.D.length t s=false) (h:zdr W W' B z 73 m.dv m.mv m.E (putD p.D t s) (putM p.D.length p.M m.E t s)):zdr W W' B z 73 m.dv m.mv m.E p.D p.M:=by
 have e:=zrF (D:=p.D) (M:=p.M) (E:=m.E) hf;rw [e.1 rfl,e.2] at h;exact h
theorem zy9 {w:World} {g:Nat} {k:Int} {s:ByteArray} (h:w.heap[g]?=some (.cells #[.int .i64 k,.string s] 162 (0,0))) (k':Int) (s':ByteArray):(Instr.storeAt 162 (.pointer (some ⟨g,0,none⟩)) (effV k' s')).run Tryz.prog w=.ok () (w.setRow g #[.int .i64 k',.string s']):=EBox.store h k' s'
theorem MS.frames {W W' wx:World} {B z:Nat} {m:Mc} {p:Pt} {b:Bd} {F:List ByteArray} {q:Option Addr} {c:Nat} (K:MS W B z m p) (hB:B≤W.heap.size) (hb:Below W.heap.size W wx) (ho:OwnF wx W.heap.size (.slice q F.length c) F) (hw:W'=wx.setRow z (mcC { m with b:=b.at q F.length c })):MS W' B z { m with b:=b.at q F.length c } { p with F:=F }∧zau W W' (Ow m z)∧∀ x,Ow { m with b:=b.at q F.length c } z x→Ow m z x∨W.heap.size≤x:=by
 have k:=K.next hb;refine ⟨?_,(zcr hb (Ow m z)).trans (by subst hw;exact (zau.refl wx (Ow m z)).setRow (.inl (.inl rfl)) _),?_⟩
 ·have ne:∀ g,g≠z→W'.heap[g]?=wx.heap[g]?:=fun g hg=>by subst hw;exact setRow_other wx z g _ hg
  refine ⟨k.box.put hw,k.big,?_,zbW k.d fun g hg=>ne g fun x=>zb8 k.d k.box (by decide) (by rw [hg,x]),zbW k.mm fun g hg=>ne g fun x=>zb8 k.mm k.box (by decide) (by rw [hg,x]),zbW k.o fun g hg=>ne g fun x=>zb8 k.o k.box (by decide) (by rw [hg,x])⟩
  refine ((FT.of ho).base hB).keep fun g cur _ hg=>ne g fun x=>?_
  subst x;have:=hg.symm.trans k.box
  simp at this
 ·intro k hk
  rcases hk with hk | hk | hk | hk | hk
  ·exact .inl (.inl hk)
  ·exact .inl (.inr (.inl hk))
  ·exact .inl (.inr (.inr (.inl hk)))
  ·exact .inl (.inr (.inr (.inr (.inl hk))))
  ·exact .inr (zcy ho hk.symm).1
theorem zwr (z B:Nat) (m:Mc) (p:Pt) (t s v:Int) (W:World) (K:MS W B z m p) (hB:B≤W.heap.size) (ok:POk m p) (hO:(p.O.length+1)*32≤140737488355328) (ht:0≤t∧t≤18446744073709551615) (hv:0≤v∧v≤18446744073709551615):Calls Tryz.prog 106 #[.pointer (some ⟨z,0,none⟩),.int .u64 t,.int .i64 s,.int .u64 v] W fun e W' =>
  e=.returned (.bool (stM m p t s v).2.2)∧Did W W' B z m (stM m p t s v).1 (stM m p t s v).2.1:=by
 have X:=hid (Mem.start W);have HK:=hid K;have HO:=hid ok;have HB:=hid (And.intro hB hO);have C0:=hid (zrC s)
 by_cases h0:okB s=false
 ·unfold stM
  simp only [if_pos h0];rw [h0] at C0;clear K hB ok hO ht hv h0;go_enter func106,ntmps106;go_wp2_with (go_at_call 142;(with_reducible refine (C0.out _).mono ?_);rintro e wc ⟨rfl,rfl⟩);go_ret;exact ⟨rfl,Did.none HK.out X.out.below⟩
 ·have h0':okB s=true:=by simpa using h0
  have hs:s=1∨s=2∨s=4∨s=8:=by unfold okB at h0';simpa [or_assoc] using h0'
  unfold stM;simp only [if_neg h0];rw [h0'] at C0;have e1:((v.toNat:Nat):Int)=v:=by omega
  have e2:((s.toNat:Nat):Int)=s:=by omega
  have C1:Hid (∀ w,TB 144 #[.int .u64 v,.int .i64 s] w (.string (zd0 v.toNat s.toNat))):=hid fun w=>by
   have k:=zlB v.toNat s.toNat w (by omega) (by omega)
   rwa [e1,e2] at k
  have hz:(zd0 v.toNat s.toNat).size≤9223372036854775807:=by rw [ziO _ _ (by omega)];omega
  have hne:(zd0 v.toNat s.toNat).size≠0:=by rw [ziO _ _ (by omega)];omega
  generalize zd0 v.toNat s.toNat=x at C1 hz hne ⊢;have C2:=hid (fun W' (h:Below W.heap.size W W')=>ziK z 73 B m.dv m.mv m.E t p.D p.M x W' (K.next h).box.ram (K.next h).d (K.next h).mm ht.1 ht.2 hz);have HN:=hid hne
  by_cases h1:putB p.D.length t x=true
  ·simp only [if_pos h1]
   have HP:=hid h1;clear K hB ok hO ht hv h0 h0' hs e1 e2 hz hne h1;go_enter func106,ntmps106;go_upto_region 3 with (go_at_call 142;(with_reducible refine (C0.out _).mono ?_);rintro e wc ⟨rfl,rfl⟩);refine dr (fun _=>True) fun wz hzz=>?_
   have X:=hid (X.out.next hzz);clear hzz;have hS:=trivial;refine tk 0 hS ?_
   refine tk 1 hS ?_
   refine tk 2 hS ?_
   refine tk 3 hS ?_
   refine tk 4 hS ?_
   refine tk 5 hS ?_
   refine hc 6 (zbL (C1.out _)) ?_
   rintro v' wb ⟨rfl,kk⟩
   have X:=hid (X.out.next kk);refine ⟨trivial,fun hS=>?_⟩
   clear kk;simp only [puts];refine hc 7 (zkD (C2.out _ X.out.below)) ?_
   rintro v' wd ⟨rfl,kk⟩
   rw [HP.out];have hat:=hid (Did.put (HK.out.next X.out.below) kk);have ht:=hid (zcr X.out.below (Ow m z));refine ⟨trivial,fun hS=>?_⟩
   clear kk;simp only [puts];refine wpAnyH_done (by kernel_rfl) ?_ _
   go_wp2_with fail;go_ret;exact ⟨rfl,hat.out.before ht.out⟩
  ·simp only [if_neg h1]
   have hF:putB p.D.length t x=false:=by simpa using h1
   have HP:=hid hF;have HV:=hid hv;generalize hR:(if ofB t=true then
  if (Pc.stF m.b.pl t s v).2=true then ({ m with b:={ m.b with pl:=(Pc.stF m.b.pl t s v).1 } },p,true) else (m,p,false)
 else if (stF m.b p.F t s v).2.2.2.2=true then
  if (stF m.b p.F t s v).2.2.1=0 then ({ m with b:=(stF m.b p.F t s v).1 },{ p with F:=(stF m.b p.F t s v).2.1 },true)
  else ((acM { m with b:=(stF m.b p.F t s v).1 } { p with F:=(stF m.b p.F t s v).2.1 } (stF m.b p.F t s v).2.2.1 (stF m.b p.F t s v).2.2.2.1).1,(acM { m with b:=(stF m.b p.F t s v).1 } { p with F:=(stF m.b p.F t s v).2.1 } (stF m.b p.F t s v).2.2.1 (stF m.b p.F t s v).2.2.2.1).2,true)
 else (m,p,false):Mc × Pt × Bool)=R
   have HR:=hid hR;clear K hB ok hO ht hv h0 h0' hs e1 e2 hz hne h1 hF hR;go_enter func106,ntmps106;go_upto_region 3 with (go_at_call 142;(with_reducible refine (C0.out _).mono ?_);rintro e wc ⟨rfl,rfl⟩);refine dr (fun _=>True) fun wz hzz=>?_
   have X:=hid (X.out.next hzz);clear hzz;have hS:=trivial;refine tk 0 hS ?_
   refine tk 1 hS ?_
   refine tk 2 hS ?_
   refine tk 3 hS ?_
   refine tk 4 hS ?_
   refine tk 5 hS ?_
   refine hc 6 (zbL (C1.out _)) ?_
   rintro v' wb ⟨rfl,kk⟩
   have X:=hid (X.out.next kk);refine ⟨trivial,fun hS=>?_⟩
   clear kk;simp only [puts];refine hc 7 (zkD (C2.out _ X.out.below)) ?_
   rintro v' wd ⟨rfl,kk⟩
   rw [HP.out];have hat:=(HK.out.next X.out.below).put (zsH HP.out kk);have HT:=hid ((zcr X.out.below (Ow m z)).trans hat.2);have HQ:=hid hat.1;have HB2:=hid (Nat.le_trans HB.out.1 HT.out.size);refine ⟨trivial,fun hS=>?_⟩
   clear kk hat X hS;have X:=hid (Mem.start wd);simp only [puts];refine wpAnyH_done (by kernel_rfl) ?_ _
   clear C1 C2;have C1:=hid (zjn t);have hR:=HR.out;clear HR
   by_cases h2:ofB t=true
   ·rw [h2] at C1
    rw [if_pos h2] at hR;have C3:=hid (fun W' (h:Below wd.heap.size wd W')=>zwF z m t s v W' (HQ.out.next h).box HO.out.c);generalize Pc.stF m.b.pl t s v=S at C3 hR;obtain ⟨q,g⟩:=S;dsimp only at C3 hR;clear h2;cases g
    ·simp only [Bool.false_eq_true,if_false] at C3 hR
     subst hR;go_wp2_with (first | (go_at_call 139;(with_reducible refine (C1.out _).mono ?_);rintro e wc ⟨rfl,rfl⟩) | (go_at_call 145;(with_reducible refine (C3.out _ X.out.below).mono ?_);rintro e we ⟨rfl,kk⟩;have HC:=hid (kk.trans X.out.below);clear kk));go_ret;exact ⟨rfl,(Did.board (b:=m.b) HQ.out ⟨rfl,rfl,rfl⟩ HC.out).before HT.out⟩
    ·simp only [if_true] at C3 hR
     subst hR;go_wp2_with (first | (go_at_call 139;(with_reducible refine (C1.out _).mono ?_);rintro e wc ⟨rfl,rfl⟩) | (go_at_call 145;(with_reducible refine (C3.out _ X.out.below).mono ?_);rintro e we ⟨rfl,kk⟩;have HC:=hid (kk.trans X.out.below);clear kk));go_ret;exact ⟨rfl,(Did.board (b:={ m.b with pl:=q }) HQ.out ⟨rfl,rfl,rfl⟩ HC.out).before HT.out⟩
   ·have h3:ofB t=false:=by simpa using h2
    rw [h3] at C1;rw [if_neg h2] at hR;have C3:=hid (fun W' (h:Below wd.heap.size wd W')=>zhM m.b p.F t s v W' ((HQ.out.next h).fr.rd) HO.out.fl HV.out);have HI:=hid (zjG m.b p.F t s v HV.out HO.out.bd);generalize stF m.b p.F t s v=S at C3 hR HI;obtain ⟨b',F',k,es,g⟩:=S;dsimp only at C3 hR HI;clear h2 h3;have HR:=hid hR;clear hR;go_upto_region 8 with (first | (go_at_call 139;(with_reducible refine (C1.out _).mono ?_);rintro e wc ⟨rfl,rfl⟩) | (with_reducible refine zaa rfl rfl (MBox.load_b (HQ.out.next X.out.below).box) rfl ?_) | (go_at_call 146;(with_reducible refine (C3.out _ X.out.below).mono ?_);rintro e wb ⟨q,c,rfl,ho',kk⟩;have X:=hid ((X.out.next kk).addrow ho' X.out.below.size (by decide));clear kk ho') | (with_reducible first | refine zan rfl rfl (zaY _ _ _ (b'.at q F'.length c) X.out.newZE.g1 (zaN _)) rfl rfl ?_ | refine zan rfl rfl (zy9 (X.out.newZE.p1 (cs':=bdC (b'.at q F'.length c)) rfl).g0 k es) rfl rfl ?_));have X:=hid ((X.out.newZE.p1 (cs':=bdC (b'.at q F'.length c)) rfl).p0 (cs':=#[.int .i64 k,.string es]) rfl);generalize wb.heap.size=x at X ⊢;generalize hwf:((((wb.alloc zaj).alloc effO).setRow x (bdC (b'.at q F'.length c))).setRow (x+1) #[.int .i64 k,.string es])=wf at X ⊢;clear hwf C1 C3 C0;cases g
    ·have hR:=HR.out
     simp only [Bool.false_eq_true,if_false] at hR;clear HR HI;subst hR;go_wp2_with fail;go_ret;exact ⟨rfl,Did.before (Did.none HQ.out X.out.below) HT.out⟩
    ·have hR:=HR.out
     simp only [if_true] at hR;have HR2:=hid hR;clear HR hR;have HS:=hid (HQ.out.next X.out.below);go_upto_region 11 with (with_reducible first | refine zaa rfl rfl (Box.load X.out.b1) rfl ?_ | refine zan rfl rfl (MBox.store_b HS.out.box (b'.at q F'.length c)) rfl rfl ?_);have HF:=hid (Did.frames (b:=b') HQ.out HB2.out X.out.below X.out.r0 rfl);have HM:=hid (HQ.out.frames (b:=b') HB2.out X.out.below X.out.r0 rfl);have zx:x+1≠z:=by have h1:wd.heap.size≤x+1:=X.out.big _ (List.mem_cons_self ..);have h2:=HQ.out.box.lt;omega
     have HE:=hid (EBox.over X.out.g0 zx (mcC { m with b:=b'.at q F'.length c }));generalize hwg:wf.setRow z (mcC { m with b:=b'.at q F'.length c })=wg at HF HM HE ⊢;have HI2:=hid (HI.out rfl);clear X HS zx hwg HI;have m_k:wg.cell? ⟨x+1,0,none⟩=some (.int .i64 k):=cell_of_row _ _ 0 _ 162 (0,0) HE.out;have hR:=HR2.out;clear HR2
     by_cases hk:k=0
     ·rw [if_pos hk] at hR
      subst hk;subst hR;go_wp2_with fail;go_ret;exact ⟨rfl,HF.out.before HT.out⟩
     ·rw [if_neg hk] at hR
      have e1:(k==0)=false:=beq_eq_false_iff_ne.2 hk;subst hR
      have hok:POk { m with b:=b'.at q F'.length c } { p with F:=F' }:=by
       obtain ⟨i1,i2,i3⟩:=HI2.out;subst i3;exact ⟨⟨i1.addr,i1.nicA,i1.sector⟩,(show Pc.U32 b'.pl.c by rw [i2];exact HO.out.c),HO.out.fz,HO.out.fl,HO.out.dl,HO.out.ml⟩
      have C4:=hid (znO z B { m with b:=b'.at q F'.length c } { p with F:=F' } k es wg HM.out.1 (Nat.le_trans HB2.out HM.out.2.1.size) hok HB.out.2);clear hk hok;go_wp2_with (first | (with_reducible refine zaa rfl rfl (EBox.load HE.out) rfl ?_) | (go_at_call 147;(with_reducible refine C4.out.mono ?_);rintro e wh ⟨rfl,kk⟩;have HC:=hid kk;clear kk));go_ret;exact ⟨rfl,(Did.act (b:=b') HM.out.2.1 HM.out.2.2 HC.out).before HT.out⟩
theorem zf8 (D:List UInt8) (t:Int) (s:ByteArray):(putD D t s).length=D.length:=by
 unfold putD
 split
 ·rename_i h
  obtain ⟨h1,h2,h3⟩:=zdX.1 h.2;exact zfr _ _ _ (by omega)
 ·rfl
theorem zgL (n:Nat) (M:List Int) (E t:Int) (s:ByteArray):(putM n M E t s).length=M.length:=by
 unfold putM
 split
 ·exact zgd _ _ _ _
 ·rfl
theorem ztq (h:Pl) (s t z:Int) (hc:Pc.U32 h.c) (hr:(Pc.ldF h s t z).2.2=true):Pc.U32 (Pc.ldF h s t z).1.c:=by
 revert hr
 show (fun R:Pl × Int × Bool=>R.2.2=true→Pc.U32 R.1.c) (Pc.ldF h s t z)
 unfold Pc.ldF
 iterate 8 refine zaf (fun R:Pl × Int × Bool=>R.2.2=true→Pc.U32 R.1.c) _ _ _ (fun _=>hc) ?_
 iterate 2 refine zaf (fun R:Pl × Int × Bool=>R.2.2=true→Pc.U32 R.1.c) _ _ _ (fun _=>Pc.zm9 _ _) ?_
 exact fun h=>by cases h
theorem zv0 (h:Pl) (n e:Int) (hc:Pc.U32 h.c):Pc.U32 (Pc.zbP h n e):=by
 unfold Pc.zbP
 split
 ·exact Pc.zh1 _ _
 ·exact hc
theorem zrP (h:Pl) (t z v:Int) (hc:Pc.U32 h.c) (hr:(Pc.stF h t z v).2=true):Pc.U32 (Pc.stF h t z v).1.c:=by
 revert hr
 show (fun R:Pl × Bool=>R.2=true→Pc.U32 R.1.c) (Pc.stF h t z v)
 unfold Pc.stF
 iterate 7 refine zaf (fun R:Pl × Bool=>R.2=true→Pc.U32 R.1.c) _ _ _ (fun _=>hc) ?_
 iterate 2 refine zaf (fun R:Pl × Bool=>R.2=true→Pc.U32 R.1.c) _ _ _ (fun _=>zv0 _ _ _ hc) ?_
 exact fun h=>by cases h
theorem zuJ (b:Bd) (F:List ByteArray) (t s n:Int) (ok:BdOk b) (hr:(ldF b F t s n).2.2.2=true):BdOk (ldF b F t s n).1∧(ldF b F t s n).1.pl=b.pl∧(ldF b F t s n).2.1=F:=by
 revert hr
 show (fun R:Bd × List ByteArray × Int × Bool=>R.2.2.2=true→BdOk R.1∧R.1.pl=b.pl∧R.2.1=F) (ldF b F t s n)
 unfold ldF
 iterate 12 refine zaf (fun R:Bd × List ByteArray × Int × Bool=>R.2.2.2=true→BdOk R.1∧R.1.pl=b.pl∧R.2.1=F) _ _ _ (fun _=>⟨⟨ok.addr,ok.nicA,ok.sector⟩,rfl,rfl⟩) ?_
 exact fun h=>by cases h
theorem ztU (b:Bd) (F:List ByteArray) (t s v:Int) (h:(stF b F t s v).2.2.1=1):(stF b F t s v).2.2.2.1.size≠0:=by
 revert h
 show (fun R:Bd × List ByteArray × Int × ByteArray × Bool=>R.2.2.1=1→R.2.2.2.1.size≠0) (stF b F t s v)
 unfold stF
 iterate 2 refine zaf (fun R:Bd × List ByteArray × Int × ByteArray × Bool=>R.2.2.1=1→R.2.2.2.1.size≠0) _ _ _ (fun h=>by cases h) ?_
 refine zaf (fun R:Bd × List ByteArray × Int × ByteArray × Bool=>R.2.2.1=1→R.2.2.2.1.size≠0) _ _ _ (fun _=>by unfold outS;exact Nat.one_ne_zero) ?_
 iterate 3 refine zaf (fun R:Bd × List ByteArray × Int × ByteArray × Bool=>R.2.2.1=1→R.2.2.2.1.size≠0) _ _ _ (fun h=>by cases h) ?_
 refine zaf (fun R:Bd × List ByteArray × Int × ByteArray × Bool=>R.2.2.1=1→R.2.2.2.1.size≠0) _ _ _ (fun h=>absurd h (by show ordV v 2 3≠1;unfold ordV;(repeat' split) <;> decide)) ?_
 refine zaf (fun R:Bd × List ByteArray × Int × ByteArray × Bool=>R.2.2.1=1→R.2.2.2.1.size≠0) _ _ _ (fun h=>by cases h) ?_
 refine zaf (fun R:Bd × List ByteArray × Int × ByteArray × Bool=>R.2.2.1=1→R.2.2.2.1.size≠0) _ _ _ (fun h=>absurd h (by show ordV v 4 5≠1;unfold ordV;(repeat' split) <;> decide)) ?_
 refine zaf (fun R:Bd × List ByteArray × Int × ByteArray × Bool=>R.2.2.1=1→R.2.2.2.1.size≠0) _ _ _ (fun h=>by cases h) ?_
 exact fun h=>by cases h
theorem zzx (D:List UInt8) (k s:Nat) (h:k+s≤D.length):(zeM D k s).size=s:=by
 show ((D.drop k).take s).toArray.size=s
 simp
 omega
theorem zmi (D:List UInt8) (b:Bd) (h:(goV D b).2=true):(goV D b).1.size≠0:=by
 unfold goV at h ⊢
 split at h
 ·cases h
 ·rename_i hn
  rw [if_neg hn];have h':zb0 D.length b.nicA b.nicL=0:=eq_of_beq h;have h0:b.nicL≠0:=by omega
  have ht:zbV D.length b.nicA b.nicL=true:=by
   unfold zb0 at h'
   split at h'
   ·rename_i k
    exact k.resolve_left h0
   ·cases h'
  obtain ⟨h1,h2,h3⟩:=zdX.1 ht;show (zcg D b.nicA b.nicL).size≠0
  unfold zcg;rw [if_pos ⟨h0,ht⟩,zzx _ _ _ (by omega)];omega
structure Left (b:Bd) (F:List ByteArray) (D:List UInt8) (M:List Int) (k:Int) (es:ByteArray) (R:Acts):Prop where
 d:R.D.length=D.length
 m:R.M.length=M.length
 f:∀ f∈R.F,f∈F
 l:R.F.length≤F.length
 p:R.b.pl=b.pl
 bk:BdOk b→BdOk R.b
 s:R.ok=true→(k=1→es.size≠0)→R.s.size≠0
theorem zsk (b:Bd) (F:List ByteArray) (E:Int) (D:List UInt8) (M:List Int) (k:Int) (es:ByteArray):Left b F D M k es (actF b F E D M k es):=by
 unfold actF
 by_cases h1:k=1
 ·simp only [if_pos h1]
  exact ⟨rfl,rfl,fun _ h=>h,Nat.le_refl _,rfl,fun h=>h,fun _ h=>h h1⟩
 simp only [if_neg h1]
 by_cases h2:k=2
 ·simp only [if_pos h2]
  split
  ·exact ⟨rfl,rfl,fun _ h=>h,Nat.le_refl _,rfl,fun ok=>⟨ok.addr,ok.nicA,ok.sector⟩,fun h=>by cases h⟩
  ·exact ⟨zf8 _ _ _,zgL _ _ _ _ _,fun _ h=>h,Nat.le_refl _,rfl,fun ok=>⟨ok.addr,ok.nicA,ok.sector⟩,fun h=>by cases h⟩
 simp only [if_neg h2]
 by_cases h3:k=3
 ·simp only [if_pos h3]
  split
  ·exact ⟨rfl,rfl,fun _ h=>h,Nat.le_refl _,rfl,fun ok=>⟨ok.addr,ok.nicA,ok.sector⟩,fun h=>by cases h⟩
  ·split
   ·exact ⟨rfl,rfl,fun _ h=>h,Nat.le_refl _,rfl,fun ok=>⟨ok.addr,ok.nicA,ok.sector⟩,fun h=>by cases h⟩
   ·exact ⟨rfl,rfl,fun _ h=>h,Nat.le_refl _,rfl,fun ok=>⟨ok.addr,ok.nicA,ok.sector⟩,fun h=>by cases h⟩
 simp only [if_neg h3]
 by_cases h4:k=4
 ·simp only [if_pos h4]
  by_cases h:0<F.length
  ·simp only [dif_pos h]
   refine ⟨zf8 _ _ _,zgL _ _ _ _ _,?_,?_,rfl,fun h=>h,fun h=>by cases h⟩
   ·intro f hf
    dsimp only at hf
    split at hf
    ·exact List.mem_of_mem_tail hf
    ·exact hf
   ·dsimp only
    split
    ·simp
    ·exact Nat.le_refl _
  ·simp only [dif_neg h]
   exact ⟨rfl,rfl,fun _ h=>h,Nat.le_refl _,rfl,fun h=>h,fun h=>by cases h⟩
 simp only [if_neg h4]
 by_cases h5:k=5
 ·simp only [if_pos h5]
  exact ⟨rfl,rfl,fun _ h=>h,Nat.le_refl _,rfl,fun h=>h,fun h _=>zmi D b h⟩
 ·simp only [if_neg h5]
  exact ⟨rfl,rfl,fun _ h=>h,Nat.le_refl _,rfl,fun h=>h,fun h=>by cases h⟩
structure zfu (m:Mc) (p:Pt) (m':Mc) (p':Pt):Prop where
 ok:POk m' p'
 o:(p'.O=p.O∧m'.nxt=m.nxt)∨∃ (d:Int) (s:ByteArray),p'.O=p.O ++ [(m.nxt,d,s)]∧s.size≠0∧m'.nxt=IntKind.u64.wrap (m.nxt+1)
theorem zxg (m:Mc) (p:Pt) (k:Int) (es:ByteArray) (ok:POk m p) (hk:k=1→es.size≠0):zfu m p (acM m p k es).1 (acM m p k es).2:=by
 have L:=zsk m.b p.F m.E p.D p.M k es;unfold acM
 have hp:∀ (n:Int) (O:List Rec),POk { m with b:=(actF m.b p.F m.E p.D p.M k es).b,nxt:=n } ⟨(actF m.b p.F m.E p.D p.M k es).F,(actF m.b p.F m.E p.D p.M k es).D,(actF m.b p.F m.E p.D p.M k es).M,O⟩:=fun n O =>
  ⟨L.bk ok.bd,by rw [L.p];exact ok.c,fun f hf=>ok.fz f (L.f f hf),Nat.le_trans L.l ok.fl,by rw [L.d];exact ok.dl,by rw [L.m];exact ok.ml⟩
 split
 ·rename_i h
  exact ⟨hp _ _,.inr ⟨_,_,rfl,L.s h hk,rfl⟩⟩
 ·exact ⟨hp m.nxt _,.inl ⟨rfl,rfl⟩⟩
theorem zjb (m:Mc) (p:Pt) (t s:Int) (ok:POk m p):zfu m p (ldM m p t s).1 (ldM m p t s).2.1:=by
 unfold ldM
 split
 ·exact ⟨ok,.inl ⟨rfl,rfl⟩⟩
 split
 ·split
  ·rename_i h
   exact ⟨⟨⟨ok.bd.addr,ok.bd.nicA,ok.bd.sector⟩,ztq _ _ _ _ ok.c h,ok.fz,ok.fl,ok.dl,ok.ml⟩,.inl ⟨rfl,rfl⟩⟩
  ·exact ⟨ok,.inl ⟨rfl,rfl⟩⟩
 ·split
  ·rename_i h
   obtain ⟨h1,h2,h3⟩:=zuJ m.b p.F t s m.cnt ok.bd h;exact ⟨⟨h1,by dsimp only;rw [h2];exact ok.c,by dsimp only;rw [h3];exact ok.fz,by dsimp only;rw [h3];exact ok.fl,ok.dl,ok.ml⟩,.inl ⟨rfl,rfl⟩⟩
  ·exact ⟨ok,.inl ⟨rfl,rfl⟩⟩
theorem ziJ (m:Mc) (p:Pt) (t s v:Int) (ok:POk m p) (hv:0≤v∧v≤18446744073709551615):zfu m p (stM m p t s v).1 (stM m p t s v).2.1:=by
 unfold stM
 split
 ·exact ⟨ok,.inl ⟨rfl,rfl⟩⟩
 split
 ·exact ⟨⟨ok.bd,ok.c,ok.fz,ok.fl,by dsimp only;rw [zf8];exact ok.dl,by dsimp only;rw [zgL];exact ok.ml⟩,.inl ⟨rfl,rfl⟩⟩
 split
 ·split
  ·rename_i h
   exact ⟨⟨⟨ok.bd.addr,ok.bd.nicA,ok.bd.sector⟩,zrP _ _ _ _ ok.c h,ok.fz,ok.fl,ok.dl,ok.ml⟩,.inl ⟨rfl,rfl⟩⟩
  ·exact ⟨ok,.inl ⟨rfl,rfl⟩⟩
 ·split
  ·rename_i h
   obtain ⟨h1,h2,h3⟩:=zjG m.b p.F t s v hv ok.bd h;have hp:POk { m with b:=(stF m.b p.F t s v).1 } { p with F:=(stF m.b p.F t s v).2.1 }:=⟨h1,by dsimp only;rw [h2];exact ok.c,by dsimp only;rw [h3];exact ok.fz,by dsimp only;rw [h3];exact ok.fl,ok.dl,ok.ml⟩
   split
   ·exact ⟨hp,.inl ⟨rfl,rfl⟩⟩
   ·have k:=zxg _ _ (stF m.b p.F t s v).2.2.1 (stF m.b p.F t s v).2.2.2.1 hp (ztU m.b p.F t s v)
    exact ⟨k.ok,k.o⟩
  ·exact ⟨ok,.inl ⟨rfl,rfl⟩⟩
theorem zj2 {α:Type} (P:α→α→Prop) (c:Prop) [Decidable c] (a b a' b':α) (ha:P a a') (hb:P b b'):P (if c then a else b) (if c then a' else b'):=by split <;> assumption
theorem zvy (b:Bd) (q:Option Addr) (n c:Nat) (F:List ByteArray) (t s k:Int):(ldF (b.at q n c) F t s k).2=(ldF b F t s k).2∧((ldF b F t s k).2.2.2=true→(ldF (b.at q n c) F t s k).1=(ldF b F t s k).1.at q n c):=by
 show (fun R R':Bd × List ByteArray × Int × Bool=>R'.2=R.2∧(R.2.2.2=true→R'.1=R.1.at q n c)) (ldF b F t s k) (ldF (b.at q n c) F t s k)
 unfold ldF
 iterate 12 refine zj2 (fun R R':Bd × List ByteArray × Int × Bool=>R'.2=R.2∧(R.2.2.2=true→R'.1=R.1.at q n c)) _ _ _ _ _ ⟨rfl,fun _=>rfl⟩ ?_
 exact ⟨rfl,fun h=>by cases h⟩
theorem zr9 (b:Bd) (q:Option Addr) (n c:Nat) (F:List ByteArray) (t s v:Int):(stF (b.at q n c) F t s v).2=(stF b F t s v).2∧((stF b F t s v).2.2.2.2=true→(stF (b.at q n c) F t s v).1=(stF b F t s v).1.at q n c):=by
 show (fun R R':Bd × List ByteArray × Int × ByteArray × Bool=>R'.2=R.2∧(R.2.2.2.2=true→R'.1=R.1.at q n c)) (stF b F t s v) (stF (b.at q n c) F t s v)
 unfold stF
 iterate 10 refine zj2 (fun R R':Bd × List ByteArray × Int × ByteArray × Bool=>R'.2=R.2∧(R.2.2.2.2=true→R'.1=R.1.at q n c)) _ _ _ _ _ ⟨rfl,fun _=>rfl⟩ ?_
 exact ⟨rfl,fun h=>by cases h⟩
abbrev reM (m:Mc) (q:Option Addr) (n c:Nat) (dv mv ov:Value):Mc:={ m with b:=m.b.at q n c,dv:=dv,mv:=mv,ov:=ov }
structure Same (m r:Mc):Prop where
 s:∀ q n c dv mv ov,reM r q n c dv mv ov=reM m q n c dv mv ov
theorem zpm (m:Mc) (p:Pt) (k:Int) (es:ByteArray) (q:Option Addr) (n c:Nat) (dv mv ov:Value):(acM (reM m q n c dv mv ov) p k es).2=(acM m p k es).2∧Same (acM m p k es).1 (acM (reM m q n c dv mv ov) p k es).1:=by
 unfold acM;simp only [zjk];cases (actF m.b p.F m.E p.D p.M k es).ok <;> exact ⟨rfl,⟨fun _ _ _ _ _ _=>rfl⟩⟩
theorem zwk (m:Mc) (p:Pt) (t s:Int) (q:Option Addr) (n c:Nat) (dv mv ov:Value):(ldM (reM m q n c dv mv ov) p t s).2=(ldM m p t s).2∧Same (ldM m p t s).1 (ldM (reM m q n c dv mv ov) p t s).1:=by
 unfold ldM
 split
 ·exact ⟨rfl,⟨fun _ _ _ _ _ _=>rfl⟩⟩
 split
 ·show _∧_
  have e:(reM m q n c dv mv ov).b.pl=m.b.pl:=rfl;have e2:zbB (reM m q n c dv mv ov).b p.F=zbB m.b p.F:=rfl;rw [e,e2]
  split
  ·exact ⟨rfl,⟨fun _ _ _ _ _ _=>rfl⟩⟩
  ·exact ⟨rfl,⟨fun _ _ _ _ _ _=>rfl⟩⟩
 ·obtain ⟨h1,h2⟩:=zvy m.b q n c p.F t s m.cnt
  have e:ldF (reM m q n c dv mv ov).b p.F t s (reM m q n c dv mv ov).cnt=ldF (m.b.at q n c) p.F t s m.cnt:=rfl;rw [e,h1]
  split
  ·rename_i h
   rw [h2 h];exact ⟨rfl,⟨fun _ _ _ _ _ _=>rfl⟩⟩
  ·exact ⟨rfl,⟨fun _ _ _ _ _ _=>rfl⟩⟩
theorem zxd (m:Mc) (p:Pt) (t s v:Int) (q:Option Addr) (n c:Nat) (dv mv ov:Value):(stM (reM m q n c dv mv ov) p t s v).2=(stM m p t s v).2∧Same (stM m p t s v).1 (stM (reM m q n c dv mv ov) p t s v).1:=by
 unfold stM
 split
 ·exact ⟨rfl,⟨fun _ _ _ _ _ _=>rfl⟩⟩
 split
 ·exact ⟨rfl,⟨fun _ _ _ _ _ _=>rfl⟩⟩
 split
 ·have e:(reM m q n c dv mv ov).b.pl=m.b.pl:=rfl
  rw [e]
  split
  ·exact ⟨rfl,⟨fun _ _ _ _ _ _=>rfl⟩⟩
  ·exact ⟨rfl,⟨fun _ _ _ _ _ _=>rfl⟩⟩
 ·obtain ⟨h1,h2⟩:=zr9 m.b q n c p.F t s v
  have e:stF (reM m q n c dv mv ov).b p.F t s v=stF (m.b.at q n c) p.F t s v:=rfl;rw [e,h1]
  split
  ·rename_i h
   rw [h2 h]
   split
   ·exact ⟨rfl,⟨fun _ _ _ _ _ _=>rfl⟩⟩
   ·have k:=zpm { m with b:=(stF m.b p.F t s v).1 } { p with F:=(stF m.b p.F t s v).2.1 } (stF m.b p.F t s v).2.2.1 (stF m.b p.F t s v).2.2.2.1 q n c dv mv ov
    exact ⟨by rw [show ({ reM m q n c dv mv ov with b:=(stF m.b p.F t s v).1.at q n c }:Mc)=reM { m with b:=(stF m.b p.F t s v).1 } q n c dv mv ov from rfl,k.1],k.2⟩
  ·exact ⟨rfl,⟨fun _ _ _ _ _ _=>rfl⟩⟩
end Go.Proofs.YtplcfdnfeclpmaaGreatDoor
