/- MachineNumbers, part 45. -/
import Derived.SliceStrings
import Derived.SizedLaws
import Derived.Carry
import Derived.Test.YtplcfdnfeclpmaaGreatDoorV23
import Derived.Test.YtplcfdnfeclpmaaGreatDoorV42
import Derived.Test.YtplcfdnfeclpmaaGreatDoorV43
import Derived.Test.YtplcfdnfeclpmaaGreatDoorV44
set_option maxHeartbeats 4000000
set_option maxRecDepth 100000
open Go.Lib (hid)
namespace Go.Proofs.YtplcfdnfeclpmaaGreatDoor.Cs
open Go.RowKit Go.Deep Go.Joins
set_option maxRecDepth 100000
theorem zmA (c:Reg) (h:zax c=true) (W:World):TB 30 #[regV c] W (.bool (zax c)):=by
 rw [h];unfold zax at h;simp only [Bool.and_eq_true] at h;exact zu9 c h.1.1.1.1.1.1.1.1.1.1 h.1.1.1.1.1.1.1.1.1.2 h.1.1.1.1.1.1.1.1.2 h.1.1.1.1.1.1.1.2 h.1.1.1.1.1.1.2 h.1.1.1.1.1.2 h.1.1.1.1.2 h.1.1.1.2 h.1.1.2 h.1.2 h.2 W
end Go.Proofs.YtplcfdnfeclpmaaGreatDoor.Cs
namespace Go.Proofs.YtplcfdnfeclpmaaGreatDoor
open Go.RowKit Go.Deep Go.Joins
set_option maxRecDepth 100000
theorem zzT (h:Hart) (k:zdd h=true) (W:World):TB 11 #[zat h] W (.bool (zdd h)):=by
 have m_x0:=zvC h;have m_pc:(zap h)[32]?=some (.int .u64 h.pc):=za1 h 0;have m_held:(zap h)[50]?=some (.bool h.held):=za1 h 18;have m_rat:(zap h)[51]?=some (.int .u64 h.rat):=za1 h 19;have m_mode:(zap h)[33]?=some (.int .i64 h.mode):=za1 h 1;have HE:Hid (zdd h=true):=hid k;unfold zdd at k;simp only [Bool.and_eq_true,Bool.or_eq_true] at k;obtain ⟨⟨⟨⟨h0,h1⟩,hm⟩,hr⟩,hq⟩:=k
 have hz:h.held=true∨h.held=false∧(h.rat==0)=true:=by
  cases hh:h.held with
  | true=>exact .inl rfl
  | false=>rw [hh] at hq;exact .inr ⟨rfl,hq.resolve_left (by decide)⟩
 clear hq;rcases hz with hh | ⟨hh,ha⟩
 all_goals
  go_enter Tryz.func11,Tryz.ntmps11;go_wp2_with (first | (with_reducible show wpList _ _ _ (⟨some 20,Op.load 25 (.tmp 19),25,_,_,_⟩ :: _) _ _;refine zbs (by first | exact rfl | (simp [Region.wanted,yielded];done) | (simp [Region.wanted,yielded,Act.put];done)) rfl (Tr.Box.load_c (Tr.Box.new W h)) rfl ?_) | (go_at_call 29;(with_reducible refine (ze9 h.mode _).mono ?_);rintro e w1 ⟨he,rfl⟩;rw [hm] at he;subst he) | (go_at_call 30;(with_reducible refine (Cs.zmA h.c hr _).mono ?_);rintro e w1 ⟨he,k1⟩;rw [hr] at he;subst he;have m_w1_held:w1.cell? ⟨W.heap.size,50,none⟩=some (.bool h.held):=((cell_of_row w1 W.heap.size 50 (zap h) 27 (0,0) ((Tr.Box.new W h).next k1)).trans (za1 h 18));have m_w1_rat:w1.cell? ⟨W.heap.size,51,none⟩=some (.int .u64 h.rat):=((cell_of_row w1 W.heap.size 51 (zap h) 27 (0,0) ((Tr.Box.new W h).next k1)).trans (za1 h 19))))
  all_goals go_ret
  all_goals exact ⟨zaX (HE.out.symm),zac ((Below.refl _ _).alloc (Nat.le_refl _) (Tr.zbv h)) k1⟩
theorem zvw (b:Bd) (F:List ByteArray) (W:World) (hf:FAt W (.slice b.fp b.fn b.fc) F) (h:zax b F=true):TB 35 #[bdV b] W (.bool (zax b F)):=by
 have k:=h;unfold zax at k;simp only [Bool.and_eq_true,decide_eq_true_eq] at k;obtain ⟨⟨⟨h0,h1⟩,h2⟩,_⟩:=k
 by_cases h3:F.length=0
 ·exact znc b F W hf.len h0 h1 h3
 ·exact zxy b F W hf.len h0 h1 h2 hf (by omega)
theorem zkM (m:Mc) (p:Pt) (W:World) (K:MR W m p) (h:chkM m p=0):TB 14 #[mcV m] W (.int .i64 (chkM m p)):=by
 have HE:=hid h
 obtain ⟨hc,hh,hb,hp⟩:chkB p.D.length p.M m.E=true∧zdd m.h=true∧zax m.b p.F=true∧Pc.zbg m.b.pl=true:=by
  unfold chkM at h
  split at h
  ·cases h
  ·next hc =>
   split at h
   ·next hr=>simp only [Bool.and_eq_true] at hr;exact ⟨by simpa using hc,hr.1.1,hr.1.2,hr.2⟩
   ·cases h
 obtain ⟨q,c,ed⟩:=zbb.is K.d;have hv:chkV p.D.length p.M m.E=0:=by unfold chkV;rw [hc];rfl
 have C28:=hid (show Calls Tryz.prog 34 #[.agg #[m.dv,m.mv,.int .u64 m.E]] (W.alloc (mcO m)) (fun e w'=>e=.returned (.int .i64 0)∧Below (W.alloc (mcO m)).heap.size (W.alloc (mcO m)) w') from by
  rw [ed,← hv];exact zm1 q p.D.length c m.mv m.E p.M _ (zbb.below K.mm (zah W _)) (by unfold chkB at hc;rw [Bool.and_eq_true,decide_eq_true_eq] at hc;exact hc.1))
 have CB:=hid (fun w' (h:Below W.heap.size W w')=>zvw m.b p.F w' (K.next h).fr hb);have X:=hid (MBox.new W m);have B:=hid (zah W (mcO m));clear K ed hv h;go_enter Tryz.func14,Tryz.ntmps14;go_upto_region 1 with fail;generalize W.alloc (mcO m)=wa at X B C28 ⊢
 go_wp2_with (first | (with_reducible refine zaa rfl rfl (MBox.load_ram X.out) rfl ?_) | (go_at_call 34;(with_reducible refine C28.out.mono ?_);rintro e w1 ⟨rfl,k1⟩;have X1:=hid (X.out.next k1);have B1:=hid (zac B.out k1);clear k1) | (with_reducible refine zaa rfl rfl (MBox.load_hart X1.out) rfl ?_) | (go_at_call 11;(with_reducible refine (zzT m.h hh _).mono ?_);rintro e w2 ⟨he,k2⟩;rw [hh] at he;subst he;have X2:=hid (X1.out.next k2);have B2:=hid (zac B1.out k2);clear k2) | (with_reducible show wpList _ _ _ (⟨some 16,Op.load 35 (.tmp 15),35,_,_,_⟩ :: _) _ _;refine zbs (by first | exact rfl | (simp [Region.wanted,yielded];done) | (simp [Region.wanted,yielded,Act.put];done)) rfl (MBox.load_b X2.out) rfl ?_) | (go_at_call 35;(with_reducible refine (CB.out w2 (zac B2.out (Below.refl _ _))).mono ?_);rintro e w3 ⟨he,k3⟩;rw [hb] at he;subst he;have X3:=hid (X2.out.next k3);have B3:=hid (zac B2.out k3);clear k3) | (with_reducible show wpList _ _ _ (⟨some 23,Op.load 33 (.tmp 22),33,_,_,_⟩ :: _) _ _;refine zbs (by first | exact rfl | (simp [Region.wanted,yielded];done) | (simp [Region.wanted,yielded,Act.put];done)) rfl (MBox.load_pl X3.out) rfl ?_) | (go_at_call 36;(with_reducible refine (Pc.zcp m.b.pl _).mono ?_);rintro e w4 ⟨he,k4⟩;rw [hp] at he;subst he;have B4:=hid (zac B3.out k4);clear k4));go_ret;exact ⟨by rw [HE.out] <;> rfl,B4.out⟩
end Go.Proofs.YtplcfdnfeclpmaaGreatDoor
namespace Go.Proofs.YtplcfdnfeclpmaaGreatDoor
open Go.RowKit Go.Deep Go.Joins
set_option maxRecDepth 100000
theorem MS.other {w:World} {B z:Nat} {m:Mc} {p:Pt} (h:MS w B z m p) {g:Nat} (hg:g<B) (cs:Array Value):MS (w.setRow g cs) B z m p :=
 h.keep fun k hk=>setRow_other w g k cs (by have:=(h.lt hk).1;omega)
theorem zv4 (m:Mc) (p:Pt) (n:Nat) (W:World) (K:MR W m p) (V:VOk m p) (h:chkM m p=0) (hn:n≤65536) (hO:(p.O.length+n+1)*32≤140737488355328) (hL:De.Laid W):Calls Tryz.prog 13 #[mcV m,.int .i64 n] W fun e W'=>∃ x,e=.returned (.tuple #[mcV x,.int .i64 0])∧Mc1 x∧Same (rnM n m p).1 x∧MR W' x (rnM n m p).2∧Below W.heap.size W W':=by
 have C:=hid (fun w (hb:Below W.heap.size W w)=>zkM m p w (K.next hb) h);rw [h] at C;have CC:=hid (fun w (hb:Below W.heap.size W w)=>zqe m p w (K.next hb) V.ok.fl V.ok.dl V.ok.ml (by omega));have HV:=hid (And.intro V (And.intro hL hO));clear K h V hL hO;go_enter Tryz.func13,Tryz.ntmps13;go_upto_region 1 with fail;have b1:=zah W (mcO m);have X:=hid (show MBox ((W.alloc (mcO m)).alloc (.cells Tryz.zeroCells42 42)) W.heap.size m from (MBox.new W m).next (zah _ _));have G:=hid (show ((W.alloc (mcO m)).alloc (.cells Tryz.zeroCells42 42)).heap[W.heap.size+1]?=some (.cells Tryz.zeroCells42 42 (0,0)) from by have:=heap_alloc_last (W.alloc (mcO m)) (.cells Tryz.zeroCells42 42);rwa [World.size_alloc] at this);have B:=hid (zac b1 (zah (W.alloc (mcO m)) (.cells Tryz.zeroCells42 42)));clear b1;generalize (W.alloc (mcO m)).alloc (.cells Tryz.zeroCells42 42)=wa at X G B ⊢;go_upto_region 2 with (first | (with_reducible refine zaa rfl rfl (MBox.load X.out) rfl ?_) | (go_at_call 14;(with_reducible refine (C.out _ B.out).mono ?_);rintro e w1 ⟨rfl,k1⟩;have X1:=hid (X.out.next k1);have B1:=hid (zac B.out k1);have G1:=hid ((k1.block _ (Array.getElem?_eq_some_iff.1 G.out).1).trans G.out);clear k1));clear X G B C;have CW:=hid (CC.out w1 B1.out)
 go_upto_region 7 with (first | (with_reducible refine zaa rfl rfl (MBox.load X1.out) rfl ?_) | (go_at_call 32;(with_reducible refine CW.out.mono ?_);rintro e wd ⟨q,c,dv,mv,ov,rfl,hf,hd,hm,ho,kk⟩;obtain ⟨u,hu⟩:∃ u:Mc,u={ m with b:=m.b.at q p.F.length c,dv:=dv,mv:=mv,ov:=ov }:=⟨_,rfl⟩;rw [← hu];have ZR:=hid (show (wd.alloc (.cells Tryz.zeroCells42 42)).heap[wd.heap.size]?=some (.cells Tryz.zeroCells42 42 (0,0)) from heap_alloc_last wd _);have N1:=hid (show Mc1 u from by rw [hu];exact ⟨zdi hd,zdi hm,zdi ho⟩);have Z:=hid (show Ms ((wd.alloc (.cells Tryz.zeroCells42 42)).setRow wd.heap.size (mcC u)) w1.heap.size wd.heap.size m p (From w1.heap.size)∧Below w1.heap.size w1 ((wd.alloc (.cells Tryz.zeroCells42 42)).setRow wd.heap.size (mcC u)) from by
  have b:=zah wd (.cells Tryz.zeroCells42 42);have hx:MBox ((wd.alloc (.cells Tryz.zeroCells42 42)).setRow wd.heap.size (mcC u)) wd.heap.size u:=setRow_heap _ _ _ _ 42 (0,0) ZR.out
  have K:MS ((wd.alloc (.cells Tryz.zeroCells42 42)).setRow wd.heap.size (mcC u)) w1.heap.size wd.heap.size u p:=by
   refine ⟨hx,kk.size,?_,?_,?_,?_⟩
   ·rw [hu];exact (hf.keep fun g cur _ hg=>b.block g (Array.getElem?_eq_some_iff.1 hg).1).over ZR.out (by decide) _
   ·rw [hu];exact zbd (zbU hd b) ZR.out (by decide) _
   ·rw [hu];exact zbd (zbU hm b) ZR.out (by decide) _
   ·rw [hu];exact zbd (zbU ho b) ZR.out (by decide) _
  exact ⟨⟨u,by rw [hu];exact ⟨fun _ _ _ _ _ _=>rfl⟩,K,fun x hx=>(K.lt hx).1⟩,below_setRow (zac kk b) kk.size _⟩);clear hu hf hd hm ho kk) | (with_reducible refine zam rfl rfl (MBox.store u N1.out ZR.out (by kernel_rfl)) rfl rfl ?_) | fail)
 clear CW CC ZR N1 X1;generalize wd.heap.size=z at Z ⊢;generalize (wd.alloc (.cells Tryz.zeroCells42 42)).setRow z (mcC u)=we at Z ⊢;have h12:∀ x,x<12→¬ From w1.heap.size x:=fun x hx h=>by have h1:w1.heap.size≤x:=h;have h2:=B1.out.size;have h3:=HV.out.2.1.1;omega
 have C33:=hid (zic w1.heap.size z (From w1.heap.size) m p n we Z.out.1 Z.out.2.size (fun x hx=>Nat.le_trans Z.out.2.size hx) HV.out.1 (by omega) HV.out.2.2 ((HV.out.2.1.below B1.out).below Z.out.2) h12);rw [show (rnN n (m,p,p.O)).1=(rnM n m p).1 from rfl,show ({ (rnN n (m,p,p.O)).2.1 with O:=(rnN n (m,p,p.O)).2.2 }:Pt)=(rnM n m p).2 from rfl] at C33;generalize hv1:(rnM n m p).1=v1 at C33;generalize hp1:(rnM n m p).2=p1 at C33;have HV1:=hid hv1;have HP1:=hid hp1;clear hv1 hp1;clear h12;go_upto_region 8 with (go_at_call 33;(with_reducible refine C33.out.mono ?_);rintro e wf ⟨rfl,hch⟩;have CH:=hid hch;clear hch);obtain ⟨x,s1,s2,s3⟩:=CH.out.1;have BF:=hid (zar.from Z.out.2 CH.out.2);have hlt:=(Array.getElem?_eq_some_iff.1 G1.out).1;have G2:=hid ((BF.out.block _ hlt).trans G1.out);have S2:=hid s2;have N1:=hid s2.one;have HX:=hid (And.intro s1 (And.intro (s2.other hlt (mcC x)).rd (below_setRow (zac B1.out BF.out) (Nat.le_succ _) (mcC x))));clear s1 s2 s3 C33 CH Z hlt;go_wp2_with (with_reducible first | refine zaa rfl rfl (MBox.load S2.out.box) rfl ?_ | refine zam rfl rfl (MBox.store x N1.out G2.out (by kernel_rfl)) rfl rfl ?_);refine bodyPost_ret (v:=.tuple #[mcV x,.int .i64 0]) (zfd Tryz.results13 _ _ (W.heap.size+1) _ _ rfl (setRow_heap wf (W.heap.size+1) _ _ 42 (0,0) G2.out) rfl) rfl ⟨x,rfl,N1.out,by rw [HV1.out,HP1.out];exact HX.out⟩
theorem zvN (v:Mc) (hv:v.h=awH) (D:List UInt8) (hD:AwD D) (g:Wk):ftR v ⟨[],D,[0],[]⟩ g=(true,awH,{ g with wd:=5244179,np:=2147483652 }):=by
 have a:=zia D [] [0] [] 2147483648 1299 hD.lo hD.slo (by decide);have b:=zia D [] [0] [] 2147483650 80 hD.hi hD.shi (by decide);unfold ftR;rw [hv,show awH.pc=2147483648 from rfl,a];simp only;rw [if_neg (by decide),if_neg (by decide),show pcV awH 2=2147483650 by decide +kernel,b];simp only;rw [if_neg (by decide),show ze4 80 1299=5244179 by decide +kernel,show pcV awH 4=2147483652 by decide +kernel]
theorem zzC (v:Mc) (hv:v.h=awH) (p:Pt) (l:Int):doR v p ⟨22,10,0,0,5,5244179,2147483652,l⟩=(true,turn v (putH awH 10 5),p,⟨22,10,0,0,5,5244179,2147483652,l⟩):=by
 have e:sumV v ⟨22,10,0,0,5,5244179,2147483652,l⟩=5:=by
  unfold sumV;rw [if_pos (show zem 22=true by decide +kernel),Al.zpG,hv];exact (show Al.uV (xV awH 0+uImm 5)=5 by decide +kernel)
 unfold doR;simp only;rw [if_neg (by decide),if_neg (by decide),if_neg (by decide),if_neg (by decide),if_neg (by decide),if_neg (by decide),if_neg (by decide),if_neg (by decide),if_neg (by decide),if_neg (by decide),if_neg (by decide),if_neg (by decide),if_neg (by decide),if_neg (by decide),if_neg (by decide),e,hv]
theorem zrc (v:Mc) (hv:v.h=awH) (hc:v.cnt=0) (D:List UInt8) (hD:AwD D):(hsM v ⟨[],D,[0],[]⟩).1={ v with h:={ putH awH 10 5 with pc:=2147483652 },cnt:=1 }:=by
 have ht:turn v awH=v:=by rw [← hv]
 have e:spR v ⟨[],D,[0],[]⟩ (wk0 (zci v ⟨[],D,[0],[]⟩))=(turn v { putH awH 10 5 with pc:=2147483652 },⟨[],D,[0],[]⟩,⟨22,10,0,0,5,5244179,2147483652,zci v ⟨[],D,[0],[]⟩⟩):=by
  unfold spR;rw [hv,zoH,if_neg (by decide),zvN v hv D hD];simp only;rw [if_neg (by decide),zxk];simp only;rw [if_neg (by decide),ht];rw [show (wk0 (zci v ⟨[],D,[0],[]⟩)).l=zci v ⟨[],D,[0],[]⟩ from rfl,zzC v hv];rfl
 unfold hsM;rw [e];show ({ turn v { putH awH 10 5 with pc:=2147483652 } with cnt:=IntKind.u64.wrap (v.cnt+1) }:Mc)=_
 rw [hc];rfl
theorem zkK (n:Nat) (s:ByteArray) (h1:1≤n) (h2:n≤256) (hs:s.size≤n*256):chkB (newP n s).D.length (newP n s).M 0=true:=by
 have hl:(newP n s).D.length=n*256:=by
  show (spl (List.replicate (n*256) (0:UInt8)) 0 s).length=_
  rw [ze7 _ _ _ (by rw [List.length_replicate];omega),List.length_replicate]
 unfold chkB;rw [Bool.and_eq_true,decide_eq_true_eq,List.all_eq_true,hl,show (newP n s).M=List.replicate n 0 from rfl,List.length_replicate];refine ⟨⟨h1,h2,rfl⟩,fun x hx=>?_⟩
 rw [(List.mem_replicate.1 hx).2]
 decide
theorem zj4:zdd awH=true:=by decide +kernel
theorem ziD:zax bdN []=true:=by decide +kernel
theorem zkE:Pc.zbg bdN.pl=true:=by decide +kernel
theorem zoy (n:Nat) (s:ByteArray) (dv mv:Value) (h1:1≤n) (h2:n≤256) (hs:s.size≤n*256):chkM (za7 dv mv) (newP n s)=0:=by
 have e:chkM (za7 dv mv) (newP n s)=if chkB (newP n s).D.length (newP n s).M 0=false then 50 else if (zdd awH && zax bdN [] && Pc.zbg bdN.pl)=true then 0 else 170:=rfl
 rw [e,zkK n s h1 h2 hs,zj4,ziD,zkE];rfl
end Go.Proofs.YtplcfdnfeclpmaaGreatDoor
namespace Go.Proofs.YtplcfdnfeclpmaaGreatDoor
open Go.RowKit Go.Deep Go.Joins
set_option maxRecDepth 100000
def zfK (n:Int) (s:ByteArray):Prop:=1≤n∧n≤256∧(s.size:Int)≤n*256
def zfS (n:Int) (s:ByteArray) (L:List Inp):Prop:=zfK n s∧∀ i∈L,inpB i=true
def zeS (n:Int) (s:ByteArray) (L:List Inp) (W:World) (e:Ending) (W':World):Prop :=
 ∃ (m:Mc) (k:Int),e=.returned (.tuple #[mcV m,.int .i64 k])∧Mc1 m∧Below W.heap.size W W' ∧
  ((k=0∧zfS n s L∧Same (spM L newV (newP n.toNat s)).1 m∧MR W' m (spM L newV (newP n.toNat s)).2)∨(k≠0∧¬ zfS n s L∧m=mcZ))
theorem zwK (n:Int) (s:ByteArray) (L:List Inp) (v:Value) (W:World) (h:¬ zfK n s):Calls Tryz.prog 17 #[.string s,.int .i64 n,v] W (zeS n s L W):=by
 obtain ⟨k,hk,C⟩:=zml n s (W.alloc (.cells Tryz.zeroCells42 42)) h;have C1:=hid C;have hb:(k != 0)=true:=by rw [bne_iff_ne];exact hk
 have HK:=hid hk;clear C hk;go_enter Tryz.func17,Tryz.ntmps17;go_upto_region 1 with fail;have G1:=hid (show (W.alloc (.cells Tryz.zeroCells42 42)).heap[W.heap.size]?=some (.cells Tryz.zeroCells42 42 (0,0)) from heap_alloc_last W _);have BA:=hid (zah W (.cells Tryz.zeroCells42 42));generalize W.alloc (.cells Tryz.zeroCells42 42)=wa at G1 BA C1 ⊢;have M1:=hid zft;go_upto_region 2 with (first | (go_at_call 31;(with_reducible refine C1.out.mono ?_);rintro e wb ⟨rfl,kk⟩;have G2:=hid ((kk.block _ (Array.getElem?_eq_some_iff.1 G1.out).1).trans G1.out);have B2:=hid (zac BA.out kk);clear kk;have ZR:=hid (show (wb.alloc (.cells Tryz.zeroCells42 42)).heap[wb.heap.size]?=some (.cells Tryz.zeroCells42 42 (0,0)) from heap_alloc_last wb _)) | (with_reducible refine zam rfl rfl (MBox.store mcZ M1.out ZR.out (by kernel_rfl)) rfl rfl ?_));have hlt:=(Array.getElem?_eq_some_iff.1 G2.out).1;have G3:=hid (show ((wb.alloc (.cells Tryz.zeroCells42 42)).setRow wb.heap.size (mcC mcZ)).heap[W.heap.size]?=some (.cells Tryz.zeroCells42 42 (0,0)) from (setRow_other _ _ _ _ (by omega)).trans (((zah wb (.cells Tryz.zeroCells42 42)).block _ hlt).trans G2.out));have B3:=hid (below_setRow (zac B2.out (zah wb (.cells Tryz.zeroCells42 42))) B2.out.size (mcC mcZ));clear hlt ZR G2 B2 C1;generalize (wb.alloc (.cells Tryz.zeroCells42 42)).setRow wb.heap.size (mcC mcZ)=wc at G3 B3 ⊢
 go_wp2_with (first | ((with_reducible show wpList _ _ _ (⟨some 20,Op.build 42 _,_,_,_,_⟩ :: _) _ _);refine zeL (by kernel_rfl) (zhX rfl zh6) ?_;simp only [Act.put,List.setIfInBounds_toArray,List.set_cons_zero,List.set_cons_succ]) | (with_reducible refine zam rfl rfl (MBox.store mcZ M1.out G3.out (by kernel_rfl)) rfl rfl ?_));refine bodyPost_ret (v:=.tuple #[mcV mcZ,.int .i64 k]) (zfd Tryz.results17 _ _ W.heap.size _ _ rfl (setRow_heap wc W.heap.size _ _ 42 (0,0) G3.out) rfl) rfl ⟨mcZ,k,rfl,zft,below_setRow B3.out (Nat.le_refl _) _,.inr ⟨HK.out,fun a=>h a.1,rfl⟩⟩
structure SpI (W1 w:World) (z:Nat) (v:Mc) (p:Pt) (L:List Inp) (j:Nat):Prop where
 ms:Ms w W1.heap.size z v p (From W1.heap.size)
 hb:Below W1.heap.size W1 w
 ok:∀ i (h:i<L.length),i<j→inpB L[i]=true
theorem zuO (L:List Inp) (v:Mc) (p:Pt):spM (L.take 0) v p=(v,p):=rfl
theorem zvV {L:List Inp} {j:Nat} {v:Mc} {p:Pt} (K:SOk v p) (hO:p.O=[]) (h:∀ i (h:i<L.length),i<j→inpB L[i]=true) (h12:L.length≤12):(spM (L.take j) v p).2.O.length≤768:=by
 have hk:=ziw (L.take j) K fun x hx=>by
  obtain ⟨i,hi,rfl⟩:=List.getElem_of_mem hx;rw [List.length_take] at hi;rw [List.getElem_take];exact h i (by omega) (by omega)
 rw [hO,List.length_take] at hk;simp only [List.length_nil] at hk;omega
theorem ztP {w1 wb:World} {dv mv:Value} {P:Pt} {L:List Inp} (hP:P=⟨[],P.D,P.M,[]⟩) (hd:OwnD wb w1.heap.size dv P.D) (hm:OwnM wb w1.heap.size mv P.M) (hb:Below w1.heap.size w1 wb):SpI w1 ((wb.alloc (.cells Tryz.zeroCells42 42)).setRow wb.heap.size (mcC (za7 dv mv))) wb.heap.size (spM (L.take 0) newV P).1 (spM (L.take 0) newV P).2 L 0:=by
 have b:=zah wb (.cells Tryz.zeroCells42 42);have ZR:(wb.alloc (.cells Tryz.zeroCells42 42)).heap[wb.heap.size]?=some (.cells Tryz.zeroCells42 42 (0,0)):=heap_alloc_last wb _;have hx:MBox ((wb.alloc (.cells Tryz.zeroCells42 42)).setRow wb.heap.size (mcC (za7 dv mv))) wb.heap.size (za7 dv mv):=setRow_heap _ _ _ _ 42 (0,0) ZR
 have K:MS ((wb.alloc (.cells Tryz.zeroCells42 42)).setRow wb.heap.size (mcC (za7 dv mv))) w1.heap.size wb.heap.size (za7 dv mv) P:=by
  rw [hP];exact ⟨hx,hb.size,FT.of (World.ownsRow_nil _ _ _ _),zbd (zbU hd b) ZR (by decide) _,zbd (zbU hm b) ZR (by decide) _,World.ownsRow_nil _ _ _ _⟩
 rw [zuO];exact ⟨⟨za7 dv mv,zqU dv mv,K,fun x hx=>(K.lt hx).1⟩,below_setRow (zac hb b) hb.size _,fun i _ hi=>absurd hi (Nat.not_lt_zero i)⟩
theorem zvA {L:List Inp} {j:Nat} (hlt:j<L.length) (h:∀ i (h:i<L.length),i<j→inpB L[i]=true) (hb:inpB L[j]=true):∀ i (h:i<L.length),i<j+1→inpB L[i]=true:=fun i hi hij=>by
 by_cases e:i<j
 ·exact h i hi e
 ·obtain rfl:i=j:=by omega
  exact hb
theorem zqs {n:Int} {s:ByteArray} {L:List Inp} {j:Nat} (hlt:j<L.length) (hb:inpB L[j]=false):¬ zfS n s L:=fun k=>by
 have:=k.2 L[j] (List.getElem_mem ..);rw [hb] at this;cases this
theorem zoX {n:Nat} {s:ByteArray} {L:List Inp} {P:Pt} {W wr:World} {z B:Nat} {m:Mc} (hP:newP n s=P) (hB:zfK n s) (hok:∀ i (h:i<L.length),i<L.length→inpB L[i]=true) (s1:Same (spM L newV P).1 m) (s2:MS wr B z m (spM L newV P).2) (hlt:W.heap.size<B) (hb:Below W.heap.size W wr):zeS n s L W (.returned (.tuple #[mcV m,.int .i64 0])) (wr.setRow W.heap.size (mcC m)):=by
 subst hP;unfold zeS;rw [Int.toNat_natCast]
 exact ⟨m,0,rfl,s2.one,below_setRow hb (Nat.le_refl _) _,.inl ⟨rfl,⟨hB,fun i hi=>by
  obtain ⟨k,hk,rfl⟩:=List.getElem_of_mem hi;exact hok k hk hk⟩,s1,(s2.other hlt (mcC m)).rd⟩⟩
theorem zyW {n:Nat} {s:ByteArray} {L:List Inp} {W w:World} {cs:Array Value} (hno:¬ zfS n s L) (hb:Below W.heap.size W w):zeS n s L W (.returned (.tuple #[mcV mcZ,.int .i64 1])) (w.setRow W.heap.size cs):=⟨mcZ,1,rfl,zft,below_setRow hb (Nat.le_refl _) _,.inr ⟨by decide,hno,rfl⟩⟩
theorem zmC (n:Nat) (s:ByteArray) (L:List Inp) (q:Option Addr) (c:Nat) (W:World) (h1:1≤n) (h2:n≤256) (hs:s.size≤n*256) (hL:InAt W (.slice q L.length c) L) (h12:L.length≤12) (hz:∀ i∈L,i.s.size≤maxLen) (hD:De.Laid W):Calls Tryz.prog 17 #[.string s,.int .i64 n,.slice q L.length c] W (zeS n s L W):=by
 have HB:=hid (show zfK n s from ⟨by omega,by omega,by omega⟩);have KS:=hid (zhq n s h2 hs);have HIN:=hid (fun w (hb:Below W.heap.size W w)=>hL.next hb);have HZ:=hid (And.intro hz (And.intro hD h12));have C31:=hid (ziV n s (W.alloc (.cells Tryz.zeroCells42 42)) h1 h2 hs);have hP:spl (List.replicate (n*256) 0) 0 s=(newP n s).D∧List.replicate n (0:Int)=(newP n s).M∧newP n s=⟨[],(newP n s).D,(newP n s).M,[]⟩:=⟨rfl,rfl,rfl⟩;rw [hP.1,hP.2.1] at C31;have HP:=hid hP.2.2;clear hL hD h12 hz hP hs;generalize hPP:newP n s=P at KS C31 HP;have PP:=hid hPP;clear hPP;go_enter Tryz.func17,Tryz.ntmps17;go_upto_region 1 with fail;have G1:=hid (show (W.alloc (.cells Tryz.zeroCells42 42)).heap[W.heap.size]?=some (.cells Tryz.zeroCells42 42 (0,0)) from heap_alloc_last W _);have BA:=hid (zah W (.cells Tryz.zeroCells42 42));have H1:=hid (show (W.alloc (.cells Tryz.zeroCells42 42)).heap.size=W.heap.size+1 from World.size_alloc ..);generalize W.alloc (.cells Tryz.zeroCells42 42)=w1 at G1 BA C31 H1 ⊢;go_upto_region 2 with (first | (go_at_call 31;(with_reducible refine C31.out.mono ?_);rintro e wb ⟨dv,mv,rfl,hd,hm,kk⟩;have ZR:=hid (show (wb.alloc (.cells Tryz.zeroCells42 42)).heap[wb.heap.size]?=some (.cells Tryz.zeroCells42 42 (0,0)) from heap_alloc_last wb _);have M1:=hid (show Mc1 (za7 dv mv) from ⟨zdi hd,zdi hm,rfl⟩);have PD:=hid hd;have PM:=hid hm;have BB:=hid kk;clear hd hm kk) | (with_reducible refine zam rfl rfl (MBox.store (za7 dv mv) M1.out ZR.out (by kernel_rfl)) rfl rfl ?_))
 have Q0:=hid (ztP (L:=L) HP.out PD.out PM.out BB.out);clear C31 PD PM M1 ZR BB;generalize wb.heap.size=z at Q0 ⊢;generalize (wb.alloc (.cells Tryz.zeroCells42 42)).setRow z (mcC (za7 dv mv))=w3 at Q0 ⊢;go_wp2_with fail
 go_loopw [24] (fun i wr=>∃ j:Nat,j≤L.length∧i=.int .i64 j∧Hid (SpI w1 wr z (spM (L.take j) newV P).1 (spM (L.take j) newV P).2 L j)) (fun i _=>L.length - (intOf i).toNat)
 case atStart=>exact ⟨0,Nat.zero_le _,rfl,Q0⟩
 case round =>
  obtain ⟨j,hj,rfl,QQ⟩:=hrel;have hbW:=zac BA.out QQ.out.hb
  by_cases hlt:j<L.length
  ·have g1:decide ((j:Int)<L.length)=true:=decide_eq_true (by omega)
   obtain ⟨g,off,rfl,hld⟩:=(HIN.out wr hbW).elem hlt;have LD:=hid hld;have hzj:=HZ.out.1 L[j] (List.getElem_mem ..);have hsucc:=zyS L j hlt newV P
   -- ROUND
   have GI:=hid (show (wr.alloc (.cells #[.int .u64 0,.int .i64 0,.int .i64 0,.string ⟨#[]⟩] 63)).heap[wr.heap.size]?=some (.cells #[.int .u64 0,.int .i64 0,.int .i64 0,.string ⟨#[]⟩] 63 (0,0)) from heap_alloc_last wr _);have HS:=hid hsucc;have C38:=hid (fun w=>zrT L[j] hzj w);have OKJ:=hid (zvA hlt QQ.out.ok);have NOJ:=hid (zqs (n:=n) (s:=s) hlt);have KO:=hid (zth (L.take j) KS.out);have LO:=hid (zvV KS.out (by rw [HP.out]) QQ.out.ok HZ.out.2.2);clear hld hzj hsucc;generalize L[j]=li at LD GI HS C38 OKJ NOJ;go_upto_region 7 with (with_reducible first | refine zaa rfl rfl LD.out rfl ?_ | refine zam rfl rfl (zne li GI.out (by kernel_rfl)) rfl rfl ?_);have GX:=hid (show ((wr.alloc (.cells #[.int .u64 0,.int .i64 0,.int .i64 0,.string ⟨#[]⟩] 63)).setRow wr.heap.size (inpC li)).heap[wr.heap.size]?=some (.cells (inpC li) 63 (0,0)) from setRow_heap _ _ _ _ 63 (0,0) GI.out);have bx:Below wr.heap.size wr ((wr.alloc (.cells #[.int .u64 0,.int .i64 0,.int .i64 0,.string ⟨#[]⟩] 63)).setRow wr.heap.size (inpC li)):=below_setRow (zah wr _) (Nat.le_refl _) _;have KX:=hid (And.intro (QQ.out.ms.next bx) (zac QQ.out.hb bx));clear GI bx QQ LD;generalize wr.heap.size=x at GX KX ⊢;generalize (wr.alloc (.cells #[.int .u64 0,.int .i64 0,.int .i64 0,.string ⟨#[]⟩] 63)).setRow x (inpC li)=wy at GX KX ⊢;cases hib:inpB li with
   | false =>
    rw [hib] at C38;have NO:=hid (NOJ.out hib);clear OKJ NOJ HS KO LO;have M1:=hid zft;go_upto_region 8 with (first | (with_reducible refine zaa rfl rfl (zhc GX.out) rfl ?_) | (go_at_call 38;(with_reducible refine (C38.out _).mono ?_);rintro e wz ⟨rfl,kk⟩;have BZ:=hid (zac KX.out.2 kk);clear kk));have G6:=hid ((BZ.out.block W.heap.size (by have:=H1.out;omega)).trans G1.out);go_wp2_with (first | ((with_reducible show wpList _ _ _ (⟨some 31,Op.build 42 _,_,_,_,_⟩ :: _) _ _);refine zeL (by kernel_rfl) (zhX rfl zh6) ?_;simp only [Act.put,List.setIfInBounds_toArray,List.set_cons_zero,List.set_cons_succ]) | (with_reducible refine zam rfl rfl (MBox.store mcZ M1.out G6.out (by kernel_rfl)) rfl rfl ?_));refine bodyPost_ret (v:=.tuple #[mcV mcZ,.int .i64 1]) (zfd Tryz.results17 _ _ W.heap.size _ _ rfl (setRow_heap wz W.heap.size _ _ 42 (0,0) G6.out) rfl) rfl (zyW NO.out (zac BA.out BZ.out))
   | true =>
    rw [hib] at C38;have OK:=hid (OKJ.out hib);obtain ⟨gp1,gp2⟩:=zfj hib;have GP:=hid (And.intro gp1 gp2);clear OKJ NOJ gp1 gp2;go_upto_region 9 with (first | (with_reducible refine zaa rfl rfl (zhc GX.out) rfl ?_) | (go_at_call 38;(with_reducible refine (C38.out _).mono ?_);rintro e wz ⟨rfl,kk⟩;have GZ:=hid ((kk.block _ (Array.getElem?_eq_some_iff.1 GX.out).1).trans GX.out);have KZ:=hid (And.intro (KX.out.1.next kk) (zac KX.out.2 kk));clear kk));clear GX KX C38;have hin:=(zg6 KO.out li.gap.toNat).inn
    have h12:∀ y,y<12→¬ From w1.heap.size y:=fun y hy h=>by
     have h1:w1.heap.size≤y:=h;have h2:=HZ.out.2.1.1;have h3:=H1.out;omega
    have C39:=hid (zpo w1.heap.size z (From w1.heap.size) (spM (L.take j) newV P).1 (spM (L.take j) newV P).2 li li.gap.toNat wz KZ.out.1 KZ.out.2.size (fun y hy=>Nat.le_trans KZ.out.2.size hy) KO.out.ok (by have:=GP.out;omega) (by have:=GP.out;omega) (by have:=LO.out;have:=GP.out;omega) ((HZ.out.2.1.below BA.out).below KZ.out.2) h12 hin);rw [← HS.out] at C39;clear hin h12 HS KO LO;go_upto_region 10 with (first | (with_reducible refine zaa rfl rfl (zhc GZ.out) rfl ?_) | (go_at_call 39;(with_reducible refine C39.out.mono ?_);rintro e wv ⟨rfl,hch⟩;have Q2:=hid (show SpI w1 wv z (spM (L.take (j+1)) newV P).1 (spM (L.take (j+1)) newV P).2 L (j+1) from ⟨hch.1,zar.from KZ.out.2 hch.2,OK.out⟩);clear hch));clear C39 GZ KZ OK GP;have hj12:=HZ.out.2.2;go_wp2_with fail;exact ⟨⟨j+1,by omega,by go_num,Q2⟩,by simp [intOf];omega⟩
  ·have hjl:j=L.length:=by omega
   subst hjl;have g1:decide ((L.length:Int)<L.length)=false:=decide_eq_false (by omega);obtain ⟨m,s1,s2,s3⟩:=QQ.out.ms;rw [List.take_length] at s1 s2;have hlt6:W.heap.size<w1.heap.size:=by have:=H1.out;omega
   have G6:=hid ((QQ.out.hb.block W.heap.size hlt6).trans G1.out);have SB:=hid s2.box;have N1:=hid s2.one;have FIN:=hid (zoX PP.out HB.out QQ.out.ok s1 s2 hlt6 hbW);clear s1 s2 s3 QQ Q0 hlt hlt6 hbW;go_wp2_with (with_reducible first | refine zaa rfl rfl (MBox.load SB.out) rfl ?_ | refine zam rfl rfl (MBox.store m N1.out G6.out (by kernel_rfl)) rfl rfl ?_);exact bodyPost_ret (v:=.tuple #[mcV m,.int .i64 0]) (zfd Tryz.results17 _ _ W.heap.size _ _ rfl (setRow_heap wr W.heap.size _ _ 42 (0,0) G6.out) rfl) rfl FIN.out
theorem zo0 (n:Int) (s:ByteArray) (L:List Inp) (q:Option Addr) (c:Nat) (W:World) (hL:InAt W (.slice q L.length c) L) (h12:L.length≤12) (hz:∀ i∈L,i.s.size≤maxLen) (hD:De.Laid W):Calls Tryz.prog 17 #[.string s,.int .i64 n,.slice q L.length c] W (zeS n s L W):=by
 by_cases h:zfK n s
 ·obtain ⟨k,rfl⟩:∃ k:Nat,n=(k:Int):=⟨n.toNat,by have:=h.1;omega⟩
  obtain ⟨h1,h2,h3⟩:=h;exact zmC k s L q c W (by omega) (by omega) (by omega) hL h12 hz hD
 ·exact zwK n s L _ W h
end Go.Proofs.YtplcfdnfeclpmaaGreatDoor

namespace Go.Proofs.YtplcfdnfeclpmaaGreatDoor
open Go.RowKit Go.Deep Go.Joins
set_option maxRecDepth 100000
theorem znT (n:Nat) (s:ByteArray) (dv mv:Value) (h2:n≤256) (hs:s.size≤n*256):VOk (za7 dv mv) (newP n s):=by
 have k:=(zhq n s h2 hs).ok;exact ⟨k.h,k.b,⟨⟨k.ok.bd.addr,k.ok.bd.nicA,k.ok.bd.sector⟩,k.ok.c,k.ok.fz,k.ok.fl,k.ok.dl,k.ok.ml⟩,k.cnt⟩
theorem ztF (dv mv:Value):(rnM 1 (za7 dv mv) (newP 1 zdp)).1={ za7 dv mv with h:={ putH awH 10 5 with pc:=2147483652 },cnt:=1 }:=zrc (za7 dv mv) rfl rfl awD zmk
theorem zyV (W:World) (hL:De.Laid W):TB 12 #[] W (.bool true):=by
 have HL:=hid hL;have C31:=hid (show Calls Tryz.prog 31 #[.string ⟨#[19,5,80,0]⟩,.int .i64 1] W (NewM W (newP 1 zdp).D (newP 1 zdp).M) from ziV 1 zdp W (by decide) (by decide) (by decide));clear hL;go_enter Tryz.func12,Tryz.ntmps12
 go_upto_region 2 with (first | (go_at_call 31;(with_reducible refine C31.out.mono ?_);rintro e wb ⟨dv,mv,rfl,hd,hm,kk⟩;have ZR:=hid (show (wb.alloc (.cells Tryz.zeroCells42 42)).heap[wb.heap.size]?=some (.cells Tryz.zeroCells42 42 (0,0)) from heap_alloc_last wb _);have M1:=hid (show Mc1 (za7 dv mv) from ⟨zdi hd,zdi hm,rfl⟩);have Z:=hid (show MS ((wb.alloc (.cells Tryz.zeroCells42 42)).setRow wb.heap.size (mcC (za7 dv mv))) W.heap.size wb.heap.size (za7 dv mv) (newP 1 zdp)∧Below W.heap.size W ((wb.alloc (.cells Tryz.zeroCells42 42)).setRow wb.heap.size (mcC (za7 dv mv))) from by
  have b:=zah wb (.cells Tryz.zeroCells42 42);have hx:MBox ((wb.alloc (.cells Tryz.zeroCells42 42)).setRow wb.heap.size (mcC (za7 dv mv))) wb.heap.size (za7 dv mv):=setRow_heap _ _ _ _ 42 (0,0) ZR.out;exact ⟨⟨hx,kk.size,FT.of (World.ownsRow_nil _ _ _ _),zbd (zbU hd b) ZR.out (by decide) _,zbd (zbU hm b) ZR.out (by decide) _,World.ownsRow_nil _ _ _ _⟩,below_setRow (zac kk b) kk.size _⟩);clear hd hm kk) | (with_reducible refine zam rfl rfl (MBox.store (za7 dv mv) M1.out ZR.out (by kernel_rfl)) rfl rfl ?_) | fail)
 clear C31 ZR M1;generalize wb.heap.size=z at Z ⊢;generalize (wb.alloc (.cells Tryz.zeroCells42 42)).setRow z (mcC (za7 dv mv))=wc at Z ⊢;have C13:=hid (show Calls Tryz.prog 13 #[mcV (za7 dv mv),.int .i64 1] wc (fun e W'=>∃ x,e=.returned (.tuple #[mcV x,.int .i64 0])∧Mc1 x∧Same (rnM 1 (za7 dv mv) (newP 1 zdp)).1 x∧MR W' x (rnM 1 (za7 dv mv) (newP 1 zdp)).2∧Below wc.heap.size wc W') from zv4 (za7 dv mv) (newP 1 zdp) 1 wc Z.out.1.rd (znT 1 zdp dv mv (by decide) (by decide)) (zoy 1 zdp dv mv (by decide) (by decide) (by decide)) (by decide) (show (0+1+1)*32≤140737488355328 by decide) (HL.out.below Z.out.2));rw [ztF] at C13;have BX:=hid Z.out.1.box;go_upto_region 3 with (first | (with_reducible refine zaa rfl rfl (MBox.load BX.out) rfl ?_) | (go_at_call 13;(with_reducible refine C13.out.mono ?_);rintro e wd ⟨x,rfl,x1,xs,_,kk⟩;have X1:=hid x1;have XS:=hid xs;have GX:=hid (show wd.heap[z]?=some (.cells (mcC (za7 dv mv)) 42 (0,0)) from BX.out.next kk);have BD:=hid (zac Z.out.2 kk);clear x1 xs kk) | (with_reducible refine zam rfl rfl (MBox.store x X1.out GX.out (zcv _)) rfl rfl ?_));have KX:MBox (wd.setRow z (mcC x)) z x:=setRow_heap wd z _ _ 42 (0,0) GX.out;have HB:=hid (below_setRow BD.out Z.out.1.big (mcC x))
 have m_x:(wd.setRow z (mcC x)).cell? ⟨z,10,none⟩=some (.int .u64 5):=by
  have h:=(cell_of_row (wd.setRow z (mcC x)) z 10 (mcC x) 42 (0,0) KX).trans (zf2 x 10 (by decide));rw [XS.out.h] at h;exact h.trans rfl
 have m_cnt:(wd.setRow z (mcC x)).cell? ⟨z,76,none⟩=some (.int .u64 1):=by
  have h:=(cell_of_row (wd.setRow z (mcC x)) z 76 (mcC x) 42 (0,0) KX).trans (zdZ x 3);unfold mcT at h;rw [XS.out.cnt] at h;exact h
 clear KX C13 BX GX BD X1 XS Z;generalize wd.setRow z (mcC x)=we at m_x m_cnt HB ⊢;go_wp2_with fail;go_ret;exact ⟨rfl,HB.out⟩
end Go.Proofs.YtplcfdnfeclpmaaGreatDoor
namespace Go.Proofs.YtplcfdnfeclpmaaGreatDoor
open Go.RowKit Go.Deep Go.Joins
set_option maxRecDepth 100000
theorem zul (p:Addr):p.add 0=p:=by unfold Addr.add;split <;> simp_all
theorem zsd (a:Option Addr) (k c s:Nat):sliced a 0 k c s=.slice a k c:=by
 unfold sliced;have e:a.map (fun x=>x.add (0*s))=a:=by cases a <;> simp [zul]
 rw [e]
 simp
theorem zzb {P:Program} {ρ:Operand→Value} {o:Oper} {t:TypeId} {x i:Operand} {v u r:Value} {w:World} (ho:o.op=.slice t x none (some i) none) (hx:ρ x=v) (hi:ρ i=u) (hrun:(Instr.sliceAt t v none (some u) none).run P w=.ok r w):(execOp ρ o).run P w=.ok (.value r) w:=by
 simp [execOp,ho,hx,hi,hrun,Result.andThen]
theorem zxq (w:World) (q:Option Addr) (n c k:Nat) (hk:k≤c):(Instr.sliceAt 57 (.slice q n c) none (some (.int .i64 (k:Int))) none).run Tryz.prog w=.ok (.slice q k c) w:=by
 have hu:Tryz.prog.underlying 57=some (.slice (Tryz.prog.elem 57)):=by kernel_rfl
 have hs:(sizeOf (Tryz.prog.elem 57)).run Tryz.prog w=.ok 4 w:=zl5 63 4 w zix;rw [run_sliceAt_slice w 57 _ _ _ _ hu,run_slice_h w 57 q n c hu .i64 k (by omega) (by omega),hs];simp only [Result.andThen];rw [zsd,Int.toNat_natCast]
theorem zyj (q:Option Addr) (c:Nat) (L:List Inp) (W:World) (h:InAt W (.slice q L.length c) L):TW 16 #[.slice q L.length c] W (.slice q (L.take 12).length c):=by
 obtain ⟨_,_,e,hc,_⟩:=h.is;simp only [Value.slice.injEq,true_and] at e;obtain ⟨rfl,rfl⟩:=e
 have hb:L.length≤maxLen:=by
  rcases h.2 with ⟨_,h2⟩ | ⟨_,_,_,h1,h3,_⟩
  ·have:=h.1;rw [h2] at this;simp at this;omega
  ·omega
 unfold maxLen at hb
 by_cases h12:12<L.length
 ·have hl:(L.take 12).length=12:=by rw [List.length_take];omega
  rw [hl];have RS:=hid (fun w=>zxq w q L.length c 12 (by omega));clear h hl;go_enter Tryz.func16,Tryz.ntmps16;go_wp2_with ((with_reducible show wpList _ _ _ (⟨some 7,Op.slice _ _ _ _ _,_,_,_,_⟩ :: _) _ _);refine zeL (by kernel_rfl) (zzb rfl rfl rfl (RS.out _)) ?_;simp only [Act.put,List.setIfInBounds_toArray,List.set_cons_zero,List.set_cons_succ]);go_ret;exact ⟨rfl,rfl⟩
 ·have hl:(L.take 12).length=L.length:=by rw [List.length_take];omega
  rw [hl];clear h hl;go_enter Tryz.func16,Tryz.ntmps16;go_wp2_with fail;go_ret;exact ⟨rfl,rfl⟩
structure AhI (W w:World) (z:Nat) (m:Mc) (p:Pt):Prop where
 bx:MBox w z m
 rd:MR w m p
 hb:Below W.heap.size W w
theorem AhI.new {W w:World} {m:Mc} {p:Pt} (hb:Below W.heap.size W w) (h:MR w m p):AhI W ((w.alloc (.cells Tryz.zeroCells42 42)).setRow w.heap.size (mcC m)) w.heap.size m p:=by
 have b:=zah w (.cells Tryz.zeroCells42 42);have b2:Below w.heap.size w ((w.alloc (.cells Tryz.zeroCells42 42)).setRow w.heap.size (mcC m)):=below_setRow b (Nat.le_refl _) _;exact ⟨setRow_heap _ _ _ _ 42 (0,0) (heap_alloc_last w (.cells Tryz.zeroCells42 42)),h.next b2,zac hb b2⟩
end Go.Proofs.YtplcfdnfeclpmaaGreatDoor
namespace Go.Proofs.YtplcfdnfeclpmaaGreatDoor
open Go.RowKit Go.Deep Go.Joins Go.WideShapes Go.ChangeShapes Go.ChangeAt
theorem own:ownKnob Tryz.prog.godebug=none:=by kernel_rfl
theorem zkB:laidOutB Tryz.prog=true:=by kernel_rfl
theorem zx7:Tryz.prog.cellsOf 22=1:=by kernel_rfl
end Go.Proofs.YtplcfdnfeclpmaaGreatDoor
namespace Go.Proofs.YtplcfdnfeclpmaaGreatDoor.Pc
set_option maxRecDepth 100000
open Go.RowKit Go.Deep Go.Joins
open Go.WideShapes Go.ChangeShapes Go.ChangeAt
theorem zkB:laidOutB Tryz.prog=true:=by kernel_rfl
end Go.Proofs.YtplcfdnfeclpmaaGreatDoor.Pc
namespace Go.Proofs.YtplcfdnfeclpmaaGreatDoor
set_option maxRecDepth 100000
open Go.RowKit Go.Deep Go.Joins
open Go.WideShapes Go.ChangeShapes Go.ChangeAt
theorem zvI:Tryz.prog.cellsOf 9=1:=by kernel_rfl
theorem zwu:Tryz.prog.cellsOf 3=1:=by kernel_rfl
def U64 (x:Int):Prop:=0≤x∧x≤18446744073709551615
section
variable {H : Type} {enc : TypeId × Value → H} {w : World} {base : Nat} {spare : Nat → Bool} {held : Bool}
theorem zsM {n:Nat} {cs:List Value} {y:DataW H × List MemPlace} (h:DataW.trod enc Tryz.prog w base spare held n 22 cs=some y):∃ k:Int,cs=[.int .u64 k]∧U64 k:=by
 obtain ⟨k,e,rfl,hk⟩:=DataW.trod_int Tryz.underlying22 h;have b:=bounds_u64 hk;exact ⟨k,e,b.1,b.2⟩
end
end Go.Proofs.YtplcfdnfeclpmaaGreatDoor
