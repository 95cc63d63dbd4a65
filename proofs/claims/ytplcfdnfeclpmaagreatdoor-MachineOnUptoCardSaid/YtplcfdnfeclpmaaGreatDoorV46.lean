/- MachineOn, part 46. -/
import Derived.Test.YtplcfdnfeclpmaaGreatDoorV43
import Derived.Test.YtplcfdnfeclpmaaGreatDoorV44
import Derived.Test.YtplcfdnfeclpmaaGreatDoorV45
set_option maxHeartbeats 4000000
set_option maxRecDepth 100000
open Go.Lib (hid)
open Go Go.RowKit Go.Deep Go.Joins Go.Proofs.Tryz
namespace Go.Proofs.YtplcfdnfeclpmaaGreatDoor.Cs
theorem zyM (c:Reg) (h:zao c=true) (W:World):TB 30 #[regV c] W (.bool (zao c)):=by
 rw [h];unfold zao at h;simp only [Bool.and_eq_true] at h;exact zj0 c h.1.1.1.1.1.1.1.1.1.1 h.1.1.1.1.1.1.1.1.1.2 h.1.1.1.1.1.1.1.1.2 h.1.1.1.1.1.1.1.2 h.1.1.1.1.1.1.2 h.1.1.1.1.1.2 h.1.1.1.1.2 h.1.1.1.2 h.1.1.2 h.1.2 h.2 W
end Go.Proofs.YtplcfdnfeclpmaaGreatDoor.Cs
namespace Go.Proofs.YtplcfdnfeclpmaaGreatDoor
theorem zy6 (h:Hart) (k:za4 h=true) (W:World):TB 11 #[zat h] W (.bool (za4 h)):=by
 have m_x0:=zej h;have m_pc:(zai h)[32]?=some (.int .u64 h.pc):=zas h 0;have m_held:(zai h)[50]?=some (.bool h.held):=zas h 18;have m_rat:(zai h)[51]?=some (.int .u64 h.rat):=zas h 19;have m_mode:(zai h)[33]?=some (.int .i64 h.mode):=zas h 1;have HE:Hid (za4 h=true):=hid k;unfold za4 at k;simp only [Bool.and_eq_true,Bool.or_eq_true] at k;obtain ⟨⟨⟨⟨h0,h1⟩,hm⟩,hr⟩,hq⟩:=k
 have hz:h.held=true∨h.held=false∧(h.rat==0)=true:=by
  cases hh:h.held with
  | true=>exact .inl rfl
  | false=>rw [hh] at hq;exact .inr ⟨rfl,hq.resolve_left (by decide)⟩
 clear hq;rcases hz with hh | ⟨hh,ha⟩
 all_goals
  go_enter func11,ntmps11;go_wp2_with (first | (with_reducible show wpList _ _ _ (⟨some 20,Op.load 25 (.tmp 19),25,_,_,_⟩ :: _) _ _;refine zaU (by first | exact rfl | (simp [Region.wanted,yielded];done) | (simp [Region.wanted,yielded,Act.put];done)) rfl (Tr.Box.load_c (Tr.Box.new W h)) rfl ?_) | (go_at_call 29;(with_reducible refine (zcY h.mode _).mono ?_);rintro e w1 ⟨he,rfl⟩;rw [hm] at he;subst he) | (go_at_call 30;(with_reducible refine (Cs.zyM h.c hr _).mono ?_);rintro e w1 ⟨he,k1⟩;rw [hr] at he;subst he;have m_w1_held:w1.cell? ⟨W.heap.size,50,none⟩=some (.bool h.held):=((cell_of_row w1 W.heap.size 50 (zai h) 27 (0,0) ((Tr.Box.new W h).next k1)).trans (zas h 18));have m_w1_rat:w1.cell? ⟨W.heap.size,51,none⟩=some (.int .u64 h.rat):=((cell_of_row w1 W.heap.size 51 (zai h) 27 (0,0) ((Tr.Box.new W h).next k1)).trans (zas h 19))))
  all_goals go_ret
  all_goals exact ⟨zaT (HE.out.symm),zac ((Below.refl _ _).alloc (Nat.le_refl _) (Tr.zbf h)) k1⟩
theorem zAN (b:Bd) (F:List ByteArray) (W:World) (hf:FAt W (.slice b.fp b.fn b.fc) F) (h:zao b F=true):TB 35 #[bdV b] W (.bool (zao b F)):=by
 have k:=h;unfold zao at k;simp only [Bool.and_eq_true,decide_eq_true_eq] at k;obtain ⟨⟨⟨h0,h1⟩,h2⟩,_⟩:=k
 by_cases h3:F.length=0
 ·exact zlx b F W hf.len h0 h1 h3
 ·exact zjh b F W hf.len h0 h1 h2 hf (by omega)
theorem zuv (m:Mc) (p:Pt) (W:World) (K:MR W m p) (h:chkM m p=0):TB 14 #[mcV m] W (.int .i64 (chkM m p)):=by
 have HE:=hid h
 obtain ⟨hc,hh,hb,hp⟩:chkB p.D.length p.M m.E=true∧za4 m.h=true∧zao m.b p.F=true∧Pc.zbh m.b.pl=true:=by
  unfold chkM at h
  split at h
  ·cases h
  ·next hc =>
   split at h
   ·next hr=>simp only [Bool.and_eq_true] at hr;exact ⟨by simpa using hc,hr.1.1,hr.1.2,hr.2⟩
   ·cases h
 obtain ⟨q,c,ed⟩:=zaW.is K.d;have hv:chkV p.D.length p.M m.E=0:=by unfold chkV;rw [hc];rfl
 have C28:=hid (show Calls Tryz.prog 34 #[.agg #[m.dv,m.mv,.int .u64 m.E]] (W.alloc (mcO m)) (fun e w'=>e=.returned (.int .i64 0)∧Below (W.alloc (mcO m)).heap.size (W.alloc (mcO m)) w') from by
  rw [ed,← hv];exact zi8 q p.D.length c m.mv m.E p.M _ (zaW.below K.mm (zag W _)) (by unfold chkB at hc;rw [Bool.and_eq_true,decide_eq_true_eq] at hc;exact hc.1))
 have CB:=hid (fun w' (h:Below W.heap.size W w')=>zAN m.b p.F w' (K.next h).fr hb);have X:=hid (MBox.new W m);have B:=hid (zag W (mcO m));clear K ed hv h;go_enter func14,ntmps14;go_upto_region 1 with fail;generalize W.alloc (mcO m)=wa at X B C28 ⊢
 go_wp2_with (first | (with_reducible refine zaa rfl rfl (MBox.load_ram X.out) rfl ?_) | (go_at_call 34;(with_reducible refine C28.out.mono ?_);rintro e w1 ⟨rfl,k1⟩;have X1:=hid (X.out.next k1);have B1:=hid (zac B.out k1);clear k1) | (with_reducible refine zaa rfl rfl (MBox.load_hart X1.out) rfl ?_) | (go_at_call 11;(with_reducible refine (zy6 m.h hh _).mono ?_);rintro e w2 ⟨he,k2⟩;rw [hh] at he;subst he;have X2:=hid (X1.out.next k2);have B2:=hid (zac B1.out k2);clear k2) | (with_reducible show wpList _ _ _ (⟨some 16,Op.load 35 (.tmp 15),35,_,_,_⟩ :: _) _ _;refine zaU (by first | exact rfl | (simp [Region.wanted,yielded];done) | (simp [Region.wanted,yielded,Act.put];done)) rfl (MBox.load_b X2.out) rfl ?_) | (go_at_call 35;(with_reducible refine (CB.out w2 (zac B2.out (Below.refl _ _))).mono ?_);rintro e w3 ⟨he,k3⟩;rw [hb] at he;subst he;have X3:=hid (X2.out.next k3);have B3:=hid (zac B2.out k3);clear k3) | (with_reducible show wpList _ _ _ (⟨some 23,Op.load 33 (.tmp 22),33,_,_,_⟩ :: _) _ _;refine zaU (by first | exact rfl | (simp [Region.wanted,yielded];done) | (simp [Region.wanted,yielded,Act.put];done)) rfl (MBox.load_pl X3.out) rfl ?_) | (go_at_call 36;(with_reducible refine (Pc.zbe m.b.pl _).mono ?_);rintro e w4 ⟨he,k4⟩;rw [hp] at he;subst he;have B4:=hid (zac B3.out k4);clear k4));go_ret;exact ⟨by rw [HE.out] <;> rfl,B4.out⟩
end Go.Proofs.YtplcfdnfeclpmaaGreatDoor
namespace Go.Proofs.YtplcfdnfeclpmaaGreatDoor
theorem MS.other {w:World} {B z:Nat} {m:Mc} {p:Pt} (h:MS w B z m p) {g:Nat} (hg:g<B) (cs:Array Value):MS (w.setRow g cs) B z m p :=
 h.keep fun k hk=>setRow_other w g k cs (by have:=(h.lt hk).1;omega)
theorem zrJ (m:Mc) (p:Pt) (n:Int) (W:World) (K:MR W m p) (h:chkM m p≠0):TB 13 #[mcV m,.int .i64 n] W (.tuple #[mcV mcZ,.int .i64 (chkM m p)]):=by
 have C:=hid (fun w (hb:Below W.heap.size W w)=>zi7 m p w (K.next hb));have hb:(chkM m p != 0)=true:=by rw [bne_iff_ne];exact h
 clear K h;generalize chkM m p=k at C hb ⊢;go_enter func13,ntmps13;go_upto_region 1 with fail;have b1:=zag W (mcO m);have X:=hid (show MBox ((W.alloc (mcO m)).alloc (.cells zeroCells42 42)) W.heap.size m from (MBox.new W m).next (zag _ _));have G:=hid (show ((W.alloc (mcO m)).alloc (.cells zeroCells42 42)).heap[W.heap.size+1]?=some (.cells zeroCells42 42 (0,0)) from by have:=heap_alloc_last (W.alloc (mcO m)) (.cells zeroCells42 42);rwa [World.size_alloc] at this);have B:=hid (zac b1 (zag (W.alloc (mcO m)) (.cells zeroCells42 42)));clear b1;generalize (W.alloc (mcO m)).alloc (.cells zeroCells42 42)=wa at X G B ⊢;have M1:=hid zkF;go_upto_region 2 with (first | (with_reducible refine zaa rfl rfl (MBox.load X.out) rfl ?_) | (go_at_call 14;(with_reducible refine (C.out _ B.out).mono ?_);rintro e w1 ⟨rfl,k1⟩;have B1:=hid (zac B.out k1);have G1:=hid ((k1.block _ (Array.getElem?_eq_some_iff.1 G.out).1).trans G.out);clear k1));go_wp2_with (first | ((with_reducible show wpList _ _ _ (⟨some 12,Op.build 42 _,_,_,_,_⟩ :: _) _ _);refine zf6 (by kernel_rfl) (zAn rfl znj) ?_;simp only [Act.put,List.setIfInBounds_toArray,List.set_cons_zero,List.set_cons_succ]) | (with_reducible refine zan rfl rfl (MBox.store mcZ M1.out G1.out (by kernel_rfl)) rfl rfl ?_));refine bodyPost_ret (v:=.tuple #[mcV mcZ,.int .i64 k]) (zh4 results13 _ _ (W.heap.size+1) _ _ rfl (setRow_heap w1 (W.heap.size+1) _ _ 42 (0,0) G1.out) rfl) rfl ⟨rfl,below_setRow B1.out (Nat.le_succ _) _⟩
theorem zhV (v m:Mc) (p:Pt) (n:Nat) (W:World) (K:MR W m p) (S:Same v m) (V:VOk v p) (h:chkM m p=0) (hn:n≤65536) (hO:(p.O.length+n+1)*32≤140737488355328) (hL:De.Laid W):Calls Tryz.prog 13 #[mcV m,.int .i64 n] W fun e W'=>∃ x,e=.returned (.tuple #[mcV x,.int .i64 0])∧Mc1 x∧Same (rnM n v p).1 x∧(∃ Bx zx,W.heap.size≤Bx∧MS W' Bx zx x (rnM n v p).2)∧Below W.heap.size W W':=by
 have C:=hid (fun w (hb:Below W.heap.size W w)=>zuv m p w (K.next hb) h);rw [h] at C;have CC:=hid (fun w (hb:Below W.heap.size W w)=>zsL m p w (K.next hb) V.ok.fl V.ok.dl V.ok.ml (by omega));have HV:=hid (And.intro V (And.intro hL hO));have SS:=hid S;clear K h V hL hO S;go_enter func13,ntmps13;go_upto_region 1 with fail;have b1:=zag W (mcO m);have X:=hid (show MBox ((W.alloc (mcO m)).alloc (.cells zeroCells42 42)) W.heap.size m from (MBox.new W m).next (zag _ _));have G:=hid (show ((W.alloc (mcO m)).alloc (.cells zeroCells42 42)).heap[W.heap.size+1]?=some (.cells zeroCells42 42 (0,0)) from by have:=heap_alloc_last (W.alloc (mcO m)) (.cells zeroCells42 42);rwa [World.size_alloc] at this);have B:=hid (zac b1 (zag (W.alloc (mcO m)) (.cells zeroCells42 42)));clear b1;generalize (W.alloc (mcO m)).alloc (.cells zeroCells42 42)=wa at X G B ⊢;go_upto_region 2 with (first | (with_reducible refine zaa rfl rfl (MBox.load X.out) rfl ?_) | (go_at_call 14;(with_reducible refine (C.out _ B.out).mono ?_);rintro e w1 ⟨rfl,k1⟩;have X1:=hid (X.out.next k1);have B1:=hid (zac B.out k1);have G1:=hid ((k1.block _ (Array.getElem?_eq_some_iff.1 G.out).1).trans G.out);clear k1));clear X G B C;have CW:=hid (CC.out w1 B1.out)
 go_upto_region 7 with (first | (with_reducible refine zaa rfl rfl (MBox.load X1.out) rfl ?_) | (go_at_call 32;(with_reducible refine CW.out.mono ?_);rintro e wd ⟨q,c,dv,mv,ov,rfl,hf,hd,hm,ho,kk⟩;obtain ⟨u,hu⟩:∃ u:Mc,u={ m with b:=m.b.at q p.F.length c,dv:=dv,mv:=mv,ov:=ov }:=⟨_,rfl⟩;rw [← hu];have ZR:=hid (show (wd.alloc (.cells zeroCells42 42)).heap[wd.heap.size]?=some (.cells zeroCells42 42 (0,0)) from heap_alloc_last wd _);have N1:=hid (show Mc1 u from by rw [hu];exact ⟨zdV hd,zdV hm,zdV ho⟩);have Z:=hid (show Ms ((wd.alloc (.cells zeroCells42 42)).setRow wd.heap.size (mcC u)) w1.heap.size wd.heap.size v p (From w1.heap.size)∧Below w1.heap.size w1 ((wd.alloc (.cells zeroCells42 42)).setRow wd.heap.size (mcC u)) from by
  have b:=zag wd (.cells zeroCells42 42);have hx:MBox ((wd.alloc (.cells zeroCells42 42)).setRow wd.heap.size (mcC u)) wd.heap.size u:=setRow_heap _ _ _ _ 42 (0,0) ZR.out
  have K:MS ((wd.alloc (.cells zeroCells42 42)).setRow wd.heap.size (mcC u)) w1.heap.size wd.heap.size u p:=by
   refine ⟨hx,kk.size,?_,?_,?_,?_⟩
   ·rw [hu];exact (hf.keep fun g cur _ hg=>b.block g (Array.getElem?_eq_some_iff.1 hg).1).over ZR.out (by decide) _
   ·rw [hu];exact zbl (zcf hd b) ZR.out (by decide) _
   ·rw [hu];exact zbl (zcf hm b) ZR.out (by decide) _
   ·rw [hu];exact zbl (zcf ho b) ZR.out (by decide) _
  exact ⟨⟨u,Same.trans SS.out (by rw [hu];exact ⟨fun _ _ _ _ _ _=>rfl⟩),K,fun x hx=>(K.lt hx).1⟩,below_setRow (zac kk b) kk.size _⟩);clear hu hf hd hm ho kk) | (with_reducible refine zan rfl rfl (MBox.store u N1.out ZR.out (by kernel_rfl)) rfl rfl ?_) | fail)
 clear CW CC ZR N1 X1;generalize wd.heap.size=z at Z ⊢;generalize (wd.alloc (.cells zeroCells42 42)).setRow z (mcC u)=we at Z ⊢;have h12:∀ x,x<12→¬ From w1.heap.size x:=fun x hx h=>by have h1:w1.heap.size≤x:=h;have h2:=B1.out.size;have h3:=HV.out.2.1.1;omega
 have C33:=hid (zxJ w1.heap.size z (From w1.heap.size) v p n we Z.out.1 Z.out.2.size (fun x hx=>Nat.le_trans Z.out.2.size hx) HV.out.1 (by omega) HV.out.2.2 ((HV.out.2.1.below B1.out).below Z.out.2) h12);rw [show (rnN n (v,p,p.O)).1=(rnM n v p).1 from rfl,show ({ (rnN n (v,p,p.O)).2.1 with O:=(rnN n (v,p,p.O)).2.2 }:Pt)=(rnM n v p).2 from rfl] at C33;generalize hv1:(rnM n v p).1=v1 at C33;generalize hp1:(rnM n v p).2=p1 at C33;have HV1:=hid hv1;have HP1:=hid hp1;clear hv1 hp1;clear h12;go_upto_region 8 with (go_at_call 33;(with_reducible refine C33.out.mono ?_);rintro e wf ⟨rfl,hch⟩;have CH:=hid hch;clear hch);obtain ⟨x,s1,s2,s3⟩:=CH.out.1;have BF:=hid (zau.from Z.out.2 CH.out.2);have hlt:=(Array.getElem?_eq_some_iff.1 G1.out).1;have G2:=hid ((BF.out.block _ hlt).trans G1.out);have S2:=hid s2;have N1:=hid s2.one;have HX:=hid (And.intro s1 (And.intro (show ∃ Bx zx,W.heap.size≤Bx∧MS (wf.setRow (W.heap.size+1) (mcC x)) Bx zx x p1 from ⟨w1.heap.size,z,B1.out.size,s2.other hlt (mcC x)⟩) (below_setRow (zac B1.out BF.out) (Nat.le_succ _) (mcC x))));clear s1 s2 s3 C33 CH Z hlt;go_wp2_with (with_reducible first | refine zaa rfl rfl (MBox.load S2.out.box) rfl ?_ | refine zan rfl rfl (MBox.store x N1.out G2.out (by kernel_rfl)) rfl rfl ?_);refine bodyPost_ret (v:=.tuple #[mcV x,.int .i64 0]) (zh4 results13 _ _ (W.heap.size+1) _ _ rfl (setRow_heap wf (W.heap.size+1) _ _ 42 (0,0) G2.out) rfl) rfl ⟨x,rfl,N1.out,by rw [HV1.out,HP1.out];exact HX.out⟩
theorem ziq (m:Mc) (p:Pt) (n:Nat) (W:World) (K:MR W m p) (V:VOk m p) (h:chkM m p=0) (hn:n≤65536) (hO:(p.O.length+n+1)*32≤140737488355328) (hL:De.Laid W):Calls Tryz.prog 13 #[mcV m,.int .i64 n] W fun e W'=>∃ x,e=.returned (.tuple #[mcV x,.int .i64 0])∧Mc1 x∧Same (rnM n m p).1 x∧MR W' x (rnM n m p).2∧Below W.heap.size W W' :=
 (zhV m m p n W K (Same.refl m) V h hn hO hL).mono fun _ _ ⟨x,e,o,k,⟨_,_,_,r⟩,b⟩=>⟨x,e,o,k,r.rd,b⟩
theorem zq2 (v:Mc) (hv:v.h=awH) (D:List UInt8) (hD:AwD D) (g:Wk):ftR v ⟨[],D,[0],[]⟩ g=(true,awH,{ g with wd:=5244179,np:=2147483652 }):=by
 have a:=zjH D [] [0] [] 2147483648 1299 hD.lo hD.slo (by decide);have b:=zjH D [] [0] [] 2147483650 80 hD.hi hD.shi (by decide);unfold ftR;rw [hv,show awH.pc=2147483648 from rfl,a];simp only;rw [if_neg (by decide),if_neg (by decide),show pcV awH 2=2147483650 by decide +kernel,b];simp only;rw [if_neg (by decide),show ze1 80 1299=5244179 by decide +kernel,show pcV awH 4=2147483652 by decide +kernel]
theorem zwQ (v:Mc) (hv:v.h=awH) (p:Pt) (l:Int):doR v p ⟨22,10,0,0,5,5244179,2147483652,l⟩=(true,turn v (putH awH 10 5),p,⟨22,10,0,0,5,5244179,2147483652,l⟩):=by
 have e:sumV v ⟨22,10,0,0,5,5244179,2147483652,l⟩=5:=by
  unfold sumV;rw [if_pos (show zek 22=true by decide +kernel),Al.zq4,hv];exact (show Al.uV (xV awH 0+uImm 5)=5 by decide +kernel)
 unfold doR;simp only;rw [if_neg (by decide),if_neg (by decide),if_neg (by decide),if_neg (by decide),if_neg (by decide),if_neg (by decide),if_neg (by decide),if_neg (by decide),if_neg (by decide),if_neg (by decide),if_neg (by decide),if_neg (by decide),if_neg (by decide),if_neg (by decide),if_neg (by decide),e,hv]
theorem zpI (v:Mc) (hv:v.h=awH) (hc:v.cnt=0) (D:List UInt8) (hD:AwD D):(hsM v ⟨[],D,[0],[]⟩).1={ v with h:={ putH awH 10 5 with pc:=2147483652 },cnt:=1 }:=by
 have ht:turn v awH=v:=by rw [← hv]
 have e:spR v ⟨[],D,[0],[]⟩ (wk0 (zcJ v ⟨[],D,[0],[]⟩))=(turn v { putH awH 10 5 with pc:=2147483652 },⟨[],D,[0],[]⟩,⟨22,10,0,0,5,5244179,2147483652,zcJ v ⟨[],D,[0],[]⟩⟩):=by
  unfold spR;rw [hv,zqr,if_neg (by decide),zq2 v hv D hD];simp only;rw [if_neg (by decide),zAj];simp only;rw [if_neg (by decide),ht];rw [show (wk0 (zcJ v ⟨[],D,[0],[]⟩)).l=zcJ v ⟨[],D,[0],[]⟩ from rfl,zwQ v hv];rfl
 unfold hsM;rw [e];show ({ turn v { putH awH 10 5 with pc:=2147483652 } with cnt:=IntKind.u64.wrap (v.cnt+1) }:Mc)=_
 rw [hc];rfl
theorem ztt (n:Nat) (s:ByteArray) (h1:1≤n) (h2:n≤256) (hs:s.size≤n*256):chkB (newP n s).D.length (newP n s).M 0=true:=by
 have hl:(newP n s).D.length=n*256:=by
  show (spl (List.replicate (n*256) (0:UInt8)) 0 s).length=_
  rw [zfr _ _ _ (by rw [List.length_replicate];omega),List.length_replicate]
 unfold chkB;rw [Bool.and_eq_true,decide_eq_true_eq,List.all_eq_true,hl,show (newP n s).M=List.replicate n 0 from rfl,List.length_replicate];refine ⟨⟨h1,h2,rfl⟩,fun x hx=>?_⟩
 rw [(List.mem_replicate.1 hx).2]
 decide
theorem zl1:za4 awH=true:=by decide +kernel
theorem zw8:zao bdN []=true:=by decide +kernel
theorem zon:Pc.zbh bdN.pl=true:=by decide +kernel
theorem zvs (n:Nat) (s:ByteArray) (dv mv:Value) (h1:1≤n) (h2:n≤256) (hs:s.size≤n*256):chkM (zbM dv mv) (newP n s)=0:=by
 have e:chkM (zbM dv mv) (newP n s)=if chkB (newP n s).D.length (newP n s).M 0=false then 50 else if (za4 awH && zao bdN [] && Pc.zbh bdN.pl)=true then 0 else 170:=rfl
 rw [e,ztt n s h1 h2 hs,zl1,zw8,zon];rfl
end Go.Proofs.YtplcfdnfeclpmaaGreatDoor
namespace Go.Proofs.YtplcfdnfeclpmaaGreatDoor
theorem zxi (n:Nat) (s:ByteArray) (dv mv:Value) (h2:n≤256) (hs:s.size≤n*256):VOk (zbM dv mv) (newP n s):=by
 have k:=(znq n s h2 hs).ok;exact ⟨k.h,k.b,⟨⟨k.ok.bd.addr,k.ok.bd.nicA,k.ok.bd.sector⟩,k.ok.c,k.ok.fz,k.ok.fl,k.ok.dl,k.ok.ml⟩,k.cnt⟩
theorem zzM (dv mv:Value):(rnM 1 (zbM dv mv) (newP 1 zdG)).1={ zbM dv mv with h:={ putH awH 10 5 with pc:=2147483652 },cnt:=1 }:=zpI (zbM dv mv) rfl rfl awD zyl
theorem zi3 (W:World) (hL:De.Laid W):TB 12 #[] W (.bool true):=by
 have HL:=hid hL;have C31:=hid (show Calls Tryz.prog 31 #[.string ⟨#[19,5,80,0]⟩,.int .i64 1] W (NewM W (newP 1 zdG).D (newP 1 zdG).M) from zzL 1 zdG W (by decide) (by decide) (by decide));clear hL;go_enter func12,ntmps12
 go_upto_region 2 with (first | (go_at_call 31;(with_reducible refine C31.out.mono ?_);rintro e wb ⟨dv,mv,rfl,hd,hm,kk⟩;have ZR:=hid (show (wb.alloc (.cells zeroCells42 42)).heap[wb.heap.size]?=some (.cells zeroCells42 42 (0,0)) from heap_alloc_last wb _);have M1:=hid (show Mc1 (zbM dv mv) from ⟨zdV hd,zdV hm,rfl⟩);have Z:=hid (show MS ((wb.alloc (.cells zeroCells42 42)).setRow wb.heap.size (mcC (zbM dv mv))) W.heap.size wb.heap.size (zbM dv mv) (newP 1 zdG)∧Below W.heap.size W ((wb.alloc (.cells zeroCells42 42)).setRow wb.heap.size (mcC (zbM dv mv))) from by
  have b:=zag wb (.cells zeroCells42 42);have hx:MBox ((wb.alloc (.cells zeroCells42 42)).setRow wb.heap.size (mcC (zbM dv mv))) wb.heap.size (zbM dv mv):=setRow_heap _ _ _ _ 42 (0,0) ZR.out;exact ⟨⟨hx,kk.size,FT.of (World.ownsRow_nil _ _ _ _),zbl (zcf hd b) ZR.out (by decide) _,zbl (zcf hm b) ZR.out (by decide) _,World.ownsRow_nil _ _ _ _⟩,below_setRow (zac kk b) kk.size _⟩);clear hd hm kk) | (with_reducible refine zan rfl rfl (MBox.store (zbM dv mv) M1.out ZR.out (by kernel_rfl)) rfl rfl ?_) | fail)
 clear C31 ZR M1;generalize wb.heap.size=z at Z ⊢;generalize (wb.alloc (.cells zeroCells42 42)).setRow z (mcC (zbM dv mv))=wc at Z ⊢;have C13:=hid (show Calls Tryz.prog 13 #[mcV (zbM dv mv),.int .i64 1] wc (fun e W'=>∃ x,e=.returned (.tuple #[mcV x,.int .i64 0])∧Mc1 x∧Same (rnM 1 (zbM dv mv) (newP 1 zdG)).1 x∧MR W' x (rnM 1 (zbM dv mv) (newP 1 zdG)).2∧Below wc.heap.size wc W') from ziq (zbM dv mv) (newP 1 zdG) 1 wc Z.out.1.rd (zxi 1 zdG dv mv (by decide) (by decide)) (zvs 1 zdG dv mv (by decide) (by decide) (by decide)) (by decide) (show (0+1+1)*32≤140737488355328 by decide) (HL.out.below Z.out.2));rw [zzM] at C13;have BX:=hid Z.out.1.box;go_upto_region 3 with (first | (with_reducible refine zaa rfl rfl (MBox.load BX.out) rfl ?_) | (go_at_call 13;(with_reducible refine C13.out.mono ?_);rintro e wd ⟨x,rfl,x1,xs,_,kk⟩;have X1:=hid x1;have XS:=hid xs;have GX:=hid (show wd.heap[z]?=some (.cells (mcC (zbM dv mv)) 42 (0,0)) from BX.out.next kk);have BD:=hid (zac Z.out.2 kk);clear x1 xs kk) | (with_reducible refine zan rfl rfl (MBox.store x X1.out GX.out (zcA _)) rfl rfl ?_));have KX:MBox (wd.setRow z (mcC x)) z x:=setRow_heap wd z _ _ 42 (0,0) GX.out;have HB:=hid (below_setRow BD.out Z.out.1.big (mcC x))
 have m_x:(wd.setRow z (mcC x)).cell? ⟨z,10,none⟩=some (.int .u64 5):=by
  have h:=(cell_of_row (wd.setRow z (mcC x)) z 10 (mcC x) 42 (0,0) KX).trans (zf1 x 10 (by decide));rw [XS.out.h] at h;exact h.trans rfl
 have m_cnt:(wd.setRow z (mcC x)).cell? ⟨z,76,none⟩=some (.int .u64 1):=by
  have h:=(cell_of_row (wd.setRow z (mcC x)) z 76 (mcC x) 42 (0,0) KX).trans (zec x 3);unfold mcT at h;rw [XS.out.cnt] at h;exact h
 clear KX C13 BX GX BD X1 XS Z;generalize wd.setRow z (mcC x)=we at m_x m_cnt HB ⊢;go_wp2_with fail;go_ret;exact ⟨rfl,HB.out⟩
end Go.Proofs.YtplcfdnfeclpmaaGreatDoor
namespace Go.Proofs.YtplcfdnfeclpmaaGreatDoor
theorem zz4:(Tryz.prog.fieldsOf 65).toList.map (fun f=>(f.type,f.offset))=[(22,0),(3,1),(9,2)]:=by kernel_rfl
theorem zrs (d:Nat) (t:TypeId) (s:ByteArray) (w:World) (h:Tryz.prog.underlying t=some .string):(Op.equalIn (d+1) t (.string s) (.string s)).run Tryz.prog w=.ok true w:=by
 rw [run_equalIn_string w d t s s h]
 simp
theorem zlX (r:Rec) (w:World):(Op.equalIn 10000 65 (rcV r) (rcV r)).run Tryz.prog w=.ok true w:=by
 rw [run_equalIn_struct w 9999 65 (rcC r) (rcC r) (by kernel_rfl) (by kernel_rfl)];refine zgc _ _ _ _ fun f hf=>?_
 have hm:(f.type,f.offset)∈(Tryz.prog.fieldsOf 65).toList.map (fun f=>(f.type,f.offset)):=List.mem_map_of_mem hf;rw [zz4] at hm;simp only [List.mem_cons,List.not_mem_nil,or_false,Prod.mk.injEq] at hm;rcases hm with ⟨e1,e2⟩ | ⟨e1,e2⟩ | ⟨e1,e2⟩
 all_goals rw [e1,e2]
 ·exact ⟨_,zdu 22 _ _ 0 _ w underlying22 rfl rfl,zd8 9998 22 .u64 _ w underlying22⟩
 ·exact ⟨_,zdu 3 _ _ 1 _ w underlying3 rfl rfl,zd8 9998 3 .i64 _ w underlying3⟩
 ·exact ⟨_,zdu 9 _ _ 2 _ w underlying9 rfl rfl,zrs 9998 9 _ w underlying9⟩
theorem zxZ {ρ:Operand→Value} {o:Oper} {x y:Operand} {t2:TypeId} (r:Rec) (w:World) (ho:o.op=.binOp .neq 65 x y t2) (hx:ρ x=rcV r) (hy:ρ y=rcV r):(execOp ρ o).run Tryz.prog w=.ok (.value (.bool false)) w:=by
 unfold execOp
 simp [ho,hx,hy,Sem.run_bind,run_eqGuard_agg,run_neq_struct,zlX,Result.andThen]
theorem zkB (w:World) (g off n c j:Nat) (hj:j<n):(Instr.indexAt 40 (.slice (some ⟨g,off,none⟩) n c) (.int .i64 (j:Int))).run Tryz.prog w=.ok (.pointer (some ⟨g,off+j*3,none⟩)) w:=by
 have hs:=zjd 65 3 w zgX
 simp [Instr.indexAt,run_underlying underlying40,asIntOf,hs,hj,Sem.run_bind,Result.andThen,zdx]
theorem zgC {P:Program} {ρ:Operand→Value} {o:Oper} {t:TypeId} {x i:Operand} {v u r:Value} {w:World} (ho:o.op=.indexAddr t x i) (hx:ρ x=v) (hi:ρ i=u) (hrun:(Instr.indexAt t v u).run P w=.ok r w):(execOp ρ o).run P w=.ok (.value r) w:=by
 simp [execOp,ho,hx,hi,hrun,Result.andThen]
theorem ziE {W:World} {q:Option Addr} {c:Nat} {O:List Rec} (h:zaW W (.slice q O.length c) 3 O.length (oC O)) (h0:0<O.length):∃ g off,q=some ⟨g,off,none⟩∧∀ j (hj:j<O.length),∀ w,Below W.heap.size W w→(Instr.loadAt 65 (.pointer (some ⟨g,off+j*3,none⟩))).run Tryz.prog w=.ok (rcV O[j]) w:=by
 obtain ⟨g,off,cap,e,_,_,hg,hc⟩:=zaW.at h (by omega);simp only [Value.slice.injEq] at e;refine ⟨g,off,e.1,fun j hj w hb=>zyB w g (off+j*3) 65 (rcL O[j]) _ underlying65 rfl zgX fun i v hv=>?_⟩
 have hi:i<3:=by have:=(List.getElem?_eq_some_iff.1 hv).1;simpa [rcL] using this
 have k:=hc (3*j+i) v (by rw [zjq O j hj i hi];exact hv);rw [show off+j*3+i=off+(3*j+i) by omega];exact (hb.cell (p:=⟨g,off+(3*j+i),none⟩) hg).trans k
theorem znT (q1 q2:Option Addr) (c1 c2:Nat) (O:List Rec) (W:World) (h1:zaW W (.slice q1 O.length c1) 3 O.length (oC O)) (h2:zaW W (.slice q2 O.length c2) 3 O.length (oC O)):TB 18 #[.slice q1 O.length c1,.slice q2 O.length c2] W (.bool true):=by
 have R1:=hid h1;have R2:=hid h2;have hOl:=h1.le;clear h1 h2;go_enter func18,ntmps18;go_wp2_with fail
 go_loopw [5] (fun i wr=>∃ j:Nat,j≤O.length∧i=.int .i64 j∧Hid (Below W.heap.size W wr)) (fun i _=>O.length - (intOf i).toNat)
 case atStart=>exact ⟨0,Nat.zero_le _,rfl,hid (Below.refl _ _)⟩
 case round =>
  obtain ⟨j,hj,rfl,X⟩:=hrel
  by_cases hlt:j<O.length
  ·obtain ⟨g,off,hq,hld⟩:=ziE R1.out (by omega)
   obtain ⟨g2,off2,hq2,hld2⟩:=ziE R2.out (by omega);subst hq;subst hq2;go_upto_region 6 with (fail);have D1:=hid (hld j hlt);have D2:=hid (hld2 j hlt);clear hld hld2;generalize O[j]=rr at D1 D2;refine dr (fun w=>Below W.heap.size W w) fun wz hzz=>?_
   have X:=hid (zac X.out hzz);clear hzz;have hS:=X.out;refine tk 0 hS ?_
   refine tk 1 hS ?_
   refine tk 2 hS ?_ (hy:=.inl ⟨by kernel_rfl,fun w _=>zgC rfl rfl rfl (zkB w g off _ c1 j hlt)⟩)
   refine tl 3 hS (fun w hw=>D1.out w hw) ?_
   refine tk 4 hS ?_
   refine tk 5 hS ?_
   refine tk 6 hS ?_ (hy:=.inl ⟨by kernel_rfl,fun w _=>zgC rfl rfl rfl (zkB w g2 off2 _ c2 j hlt)⟩)
   refine tl 7 hS (fun w hw=>D2.out w hw) ?_
   refine tk 8 hS ?_ (hy:=.inl ⟨by kernel_rfl,fun w _=>zxZ rr w rfl rfl rfl⟩)
   refine wpAnyH_done (by kernel_rfl) ?_ _
   clear D1 D2 hS;go_wp2_with fail;exact ⟨⟨j+1,by omega,by go_num,X⟩,by simp [intOf];omega⟩
  ·go_wp2_with fail
   go_ret;exact ⟨rfl,X.out⟩
end Go.Proofs.YtplcfdnfeclpmaaGreatDoor
