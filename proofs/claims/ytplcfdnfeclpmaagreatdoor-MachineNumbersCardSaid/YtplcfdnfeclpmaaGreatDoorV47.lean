/- MachineNumbers, part 47. -/
import Derived.Test.YtplcfdnfeclpmaaGreatDoorV42
import Derived.Test.YtplcfdnfeclpmaaGreatDoorV43
import Derived.Test.YtplcfdnfeclpmaaGreatDoorV44
import Derived.Test.YtplcfdnfeclpmaaGreatDoorV45
import Derived.Test.YtplcfdnfeclpmaaGreatDoorV46
set_option maxHeartbeats 4000000
set_option maxRecDepth 100000
open Go.Lib (hid)
open Go Go.RowKit Go.Deep Go.Joins Go.Proofs.Tryz
namespace Go.Proofs.YtplcfdnfeclpmaaGreatDoor.Pc
theorem zet (x:Int):zbk x=true ↔ ∀ i,i<32→(bitT x i && !bitT 14 i)=false:=by
 unfold zbk;rw [beq_iff_eq]
 constructor
 ·intro h i hi
  rw [← zb8 x 14 i hi,h,zco]
 ·intro h
  apply zce _ _ (zho _ _) zfH
  intro i hi;rw [zb8 x 14 i hi,h i hi,zco]
theorem zps (a b:Int) (ha:zbk a=true) (hb:zbk b=true):zbk (bits .or .u32 a b)=true:=by
 rw [zet] at *;intro i hi;have h1:=ha i hi;have h2:=hb i hi;rw [zd8]
 revert h1 h2
 cases bitT a i <;> cases bitT b i <;> cases bitT 14 i <;> decide
theorem zzx (a b:Int) (ha:zbk a=true):zbk (bits .andNot .u32 a b)=true:=by
 rw [zet] at *;intro i hi;have h1:=ha i hi;rw [zb8 a b i hi]
 revert h1
 cases bitT a i <;> cases bitT b i <;> cases bitT 14 i <;> decide
theorem zc9 (a:Int):zbk (bits .and .u32 a 14)=true:=by
 rw [zet];intro i _;rw [zbc];cases bitT a i <;> cases bitT 14 i <;> decide
theorem zlC (k:Int):zbk (wt k)=true:=by
 by_cases h1:k=1
 ·subst h1;decide +kernel
 by_cases h2:k=2
 ·subst h2;decide +kernel
 by_cases h3:k=3
 ·subst h3;decide +kernel
 have e:wt k=0:=by
  unfold wt
  split <;> first | rfl | omega
 rw [e]
 decide +kernel
theorem zfM (a:Int):bits .and .u32 a 7≤7:=by
 have e:bits .and .u32 a 7=IntKind.u32.wrap (((BitVec.ofInt 32 a &&& BitVec.ofInt 32 7).toNat:Nat):Int):=rfl
 have h:(BitVec.ofInt 32 a &&& BitVec.ofInt 32 7).toNat≤7:=by
  rw [BitVec.toNat_and,show (BitVec.ofInt 32 7).toNat=7 from rfl];exact Nat.and_le_right
 rw [e,IntKind.wrap_u32];omega
theorem za5 (h g:Pl) (hr:zbg h=true) (h0:g.p0=h.p0) (h1:g.p1≤7) (h2:g.p2≤7) (h3:g.p3≤7) (h4:g.l0≤7) (h5:g.l1≤7) (h6:zbk g.e0=true) (h7:zbk g.e1=true) (h8:zbk g.c=true):zbg g=true:=by
 have r:=(zfC h).1 hr;exact (zfC g).2 ⟨⟨by rw [h0];exact r.1.1,h1,h2,h3⟩,⟨h4,h6⟩,⟨h5,h7⟩,h0.trans r.2.2.2.1,h8⟩
theorem zhN (h:Pl) (s t:Int) (hr:zbg h=true) (hx:(ldF h s t 4).2.2=true):zbg (ldF h s t 4).1=true:=by
 have r:=(zfC h).1 hr
 have hc:∀ k,zbg { h with c:=bits .or .u32 h.c (wt k) }=true:=fun k =>
  za5 h _ hr rfl r.1.2.1 r.1.2.2.1 r.1.2.2.2 r.2.1.1 r.2.2.1.1 r.2.1.2 r.2.2.1.2 (zps _ _ r.2.2.2.2 (zlC k))
 by_cases h_p1:t=201326596
 ·subst h_p1;exact hr
 by_cases h_p2:t=201326600
 ·subst h_p2;exact hr
 by_cases h_p3:t=201326604
 ·subst h_p3;exact hr
 by_cases h_wait:t=201330688
 ·subst h_wait;exact hr
 by_cases h_e0:t=201334784
 ·subst h_e0;exact hr
 by_cases h_e1:t=201334912
 ·subst h_e1;exact hr
 by_cases h_l0:t=203423744
 ·subst h_l0;exact hr
 by_cases h_l1:t=203427840
 ·subst h_l1;exact hr
 by_cases h_b0:t=203423748
 ·subst h_b0;exact hc _
 by_cases h_b1:t=203427844
 ·subst h_b1;exact hc _
 rw [zbZ h s t 4 (.inr ⟨h_p1,h_p2,h_p3,h_wait,h_e0,h_e1,h_l0,h_l1,h_b0,h_b1⟩)] at hx;cases hx
theorem zjA (h:Pl) (n e:Int) (hc:zbk h.c=true):zbk (zbJ h n e)=true:=by
 unfold zbJ
 split
 ·exact zzx _ _ hc
 ·exact hc
theorem zhL (h:Pl) (t v:Int) (hr:zbg h=true) (hx:(stF h t 4 v).2=true):zbg (stF h t 4 v).1=true:=by
 have r:=(zfC h).1 hr
 by_cases h_p1:t=201326596
 ·subst h_p1;exact za5 h _ hr rfl (zfM _) r.1.2.2.1 r.1.2.2.2 r.2.1.1 r.2.2.1.1 r.2.1.2 r.2.2.1.2 r.2.2.2.2
 by_cases h_p2:t=201326600
 ·subst h_p2;exact za5 h _ hr rfl r.1.2.1 (zfM _) r.1.2.2.2 r.2.1.1 r.2.2.1.1 r.2.1.2 r.2.2.1.2 r.2.2.2.2
 by_cases h_p3:t=201326604
 ·subst h_p3;exact za5 h _ hr rfl r.1.2.1 r.1.2.2.1 (zfM _) r.2.1.1 r.2.2.1.1 r.2.1.2 r.2.2.1.2 r.2.2.2.2
 by_cases h_wait:t=201330688
 ·subst h_wait;rw [zka] at hx;cases hx
 by_cases h_e0:t=201334784
 ·subst h_e0;exact za5 h _ hr rfl r.1.2.1 r.1.2.2.1 r.1.2.2.2 r.2.1.1 r.2.2.1.1 (zc9 _) r.2.2.1.2 r.2.2.2.2
 by_cases h_e1:t=201334912
 ·subst h_e1;exact za5 h _ hr rfl r.1.2.1 r.1.2.2.1 r.1.2.2.2 r.2.1.1 r.2.2.1.1 r.2.1.2 (zc9 _) r.2.2.2.2
 by_cases h_l0:t=203423744
 ·subst h_l0;exact za5 h _ hr rfl r.1.2.1 r.1.2.2.1 r.1.2.2.2 (zfM _) r.2.2.1.1 r.2.1.2 r.2.2.1.2 r.2.2.2.2
 by_cases h_l1:t=203427840
 ·subst h_l1;exact za5 h _ hr rfl r.1.2.1 r.1.2.2.1 r.1.2.2.2 r.2.1.1 (zfM _) r.2.1.2 r.2.2.1.2 r.2.2.2.2
 by_cases h_b0:t=203423748
 ·subst h_b0;exact za5 h _ hr rfl r.1.2.1 r.1.2.2.1 r.1.2.2.2 r.2.1.1 r.2.2.1.1 r.2.1.2 r.2.2.1.2 (zjA h _ _ r.2.2.2.2)
 by_cases h_b1:t=203427844
 ·subst h_b1;exact za5 h _ hr rfl r.1.2.1 r.1.2.2.1 r.1.2.2.2 r.2.1.1 r.2.2.1.1 r.2.1.2 r.2.2.1.2 (zjA h _ _ r.2.2.2.2)
 rw [zbL h t 4 v (.inr ⟨h_p1,h_p2,h_p3,h_wait,h_e0,h_e1,h_l0,h_l1,h_b0,h_b1⟩)] at hx;cases hx
theorem zun (h:Pl) (s t z:Int) (hr:zbg h=true) (hx:(ldF h s t z).2.2=true):zbg (ldF h s t z).1=true:=by
 by_cases hz:z=4
 ·subst hz;exact zhN h s t hr hx
 ·rw [zbZ h s t z (.inl hz)] at hx;cases hx
theorem zz1 (h:Pl) (t z v:Int) (hr:zbg h=true) (hx:(stF h t z v).2=true):zbg (stF h t z v).1=true:=by
 by_cases hz:z=4
 ·subst hz;exact zhL h t v hr hx
 ·rw [zbL h t z v (.inl hz)] at hx;cases hx
end Go.Proofs.YtplcfdnfeclpmaaGreatDoor.Pc
namespace Go.Proofs.YtplcfdnfeclpmaaGreatDoor
theorem zej {b:Bd} {F:List ByteArray}:zax b F=true ↔ hasB b=true∧b.inn.size≤1024∧F.length≤64∧frB F=true:=by
 unfold zax
 simp [and_assoc]
theorem za5 {b r:Bd} {F:List ByteArray} (h:zax b F=true) (hs:r.sec=b.sec) (hi:r.inn.size≤b.inn.size):zax r F=true:=by
 obtain ⟨h1,h2,h3,h4⟩:=zej.1 h;refine zej.2 ⟨?_,Nat.le_trans hi h2,h3,h4⟩
 unfold hasB at h1 ⊢;rw [hs];exact h1
theorem zpq (s:ByteArray):(zd7 s).size≤s.size:=by
 unfold zd7
 split
 ·simp
 ·exact Nat.le_refl _
theorem zhN (b:Bd) (F:List ByteArray) (t s n:Int) (hr:zax b F=true):(ldF b F t s n).2.2.2=true→zax (ldF b F t s n).1 (ldF b F t s n).2.1=true:=by
 unfold ldF
 by_cases h:t=33554432∧s=4
 ·simp only [if_pos h]
  intro _;exact za5 hr rfl (Nat.le_refl _)
 simp only [if_neg h];clear h
 by_cases h:t=33570816∧s=8
 ·simp only [if_pos h]
  intro _;exact za5 hr rfl (Nat.le_refl _)
 simp only [if_neg h];clear h
 by_cases h:t=33603576∧s=8
 ·simp only [if_pos h]
  intro _;exact za5 hr rfl (Nat.le_refl _)
 simp only [if_neg h];clear h
 by_cases h:t=268435456∧s=1
 ·simp only [if_pos h]
  intro _;exact za5 hr rfl (zpq _)
 simp only [if_neg h];clear h
 by_cases h:t=268435457∧s=1
 ·simp only [if_pos h]
  intro _;exact za5 hr rfl (Nat.le_refl _)
 simp only [if_neg h];clear h
 by_cases h:t=268435461∧s=1
 ·simp only [if_pos h]
  intro _;exact za5 hr rfl (Nat.le_refl _)
 simp only [if_neg h];clear h
 by_cases h:t=268439552∧s=8
 ·simp only [if_pos h]
  intro _;exact za5 hr rfl (Nat.le_refl _)
 simp only [if_neg h];clear h
 by_cases h:t=268439560∧s=8
 ·simp only [if_pos h]
  intro _;exact za5 hr rfl (Nat.le_refl _)
 simp only [if_neg h];clear h
 by_cases h:t=268439576∧s=8
 ·simp only [if_pos h]
  intro _;exact za5 hr rfl (Nat.le_refl _)
 simp only [if_neg h];clear h
 by_cases h:t=268443648∧s=8
 ·simp only [if_pos h]
  intro _;exact za5 hr rfl (Nat.le_refl _)
 simp only [if_neg h];clear h
 by_cases h:t=268443656∧s=8
 ·simp only [if_pos h]
  intro _;exact za5 hr rfl (Nat.le_refl _)
 simp only [if_neg h];clear h
 by_cases h:t=268443672∧s=8
 ·simp only [if_pos h]
  intro _;exact za5 hr rfl (Nat.le_refl _)
 simp only [if_neg h];clear h;intro h;cases h
theorem zhL (b:Bd) (F:List ByteArray) (t s v:Int) (hr:zax b F=true):(stF b F t s v).2.2.2.2=true→zax (stF b F t s v).1 (stF b F t s v).2.1=true:=by
 unfold stF
 by_cases h:t=33554432∧s=4
 ·simp only [if_pos h]
  intro _;exact za5 hr rfl (Nat.le_refl _)
 simp only [if_neg h];clear h
 by_cases h:t=33570816∧s=8
 ·simp only [if_pos h]
  intro _;exact za5 hr rfl (Nat.le_refl _)
 simp only [if_neg h];clear h
 by_cases h:t=268435456∧s=1
 ·simp only [if_pos h]
  intro _;exact za5 hr rfl (Nat.le_refl _)
 simp only [if_neg h];clear h
 by_cases h:t=268435457∧s=1
 ·simp only [if_pos h]
  intro _;exact za5 hr rfl (Nat.le_refl _)
 simp only [if_neg h];clear h
 by_cases h:t=268439552∧s=8
 ·simp only [if_pos h]
  intro _;exact za5 hr rfl (Nat.le_refl _)
 simp only [if_neg h];clear h
 by_cases h:t=268439560∧s=8
 ·simp only [if_pos h]
  intro _;exact za5 hr rfl (Nat.le_refl _)
 simp only [if_neg h];clear h
 by_cases h:t=268439568∧s=8
 ·simp only [if_pos h]
  intro _;exact za5 hr rfl (Nat.le_refl _)
 simp only [if_neg h];clear h
 by_cases h:t=268443656∧s=8
 ·simp only [if_pos h]
  intro _;exact za5 hr rfl (Nat.le_refl _)
 simp only [if_neg h];clear h
 by_cases h:t=268443664∧s=8
 ·simp only [if_pos h]
  intro _;exact za5 hr rfl (Nat.le_refl _)
 simp only [if_neg h];clear h
 by_cases h:t=268443672∧s=8
 ·simp only [if_pos h]
  intro _;exact za5 hr rfl (Nat.le_refl _)
 simp only [if_neg h];clear h;intro h;cases h
theorem zko {F:List ByteArray} (h:frB F=true) (f:ByteArray) (hf:f∈F):f.size≤64:=by
 unfold frB at h;exact of_decide_eq_true (List.all_eq_true.1 h f hf)
theorem zkW {F:List ByteArray} (h:∀ f∈F,f.size≤64):frB F=true:=by
 unfold frB;exact List.all_eq_true.2 fun f hf=>decide_eq_true (h f hf)
theorem zru (b:Bd) (F:List ByteArray) (d:Int) (s:ByteArray) (hr:zax b F=true):zax (gvF b F d s).1 (gvF b F d s).2.1=true:=by
 obtain ⟨h1,h2,h3,h4⟩:=zej.1 hr;unfold gvF
 by_cases g1:d=1∧b.inn.size+s.size≤1024
 ·rw [if_pos g1]
  exact zej.2 ⟨h1,by show (b.inn ++ s).size≤1024;rw [ByteArray.size_append];exact g1.2,h3,h4⟩
 ·rw [if_neg g1]
  by_cases g2:d=2∧0<s.size∧s.size≤64∧F.length<64
  ·rw [if_pos g2]
   refine zej.2 ⟨h1,h2,by show (F ++ [s]).length≤64;rw [List.length_append];simp;omega,zkW fun f hf=>?_⟩
   rcases List.mem_append.1 hf with hf | hf
   ·exact zko h4 f hf
   ·rw [List.mem_singleton.1 hf];exact g2.2.2.1
  ·rw [if_neg g2]
   exact hr
theorem zxO (D:List UInt8) (t:Int) (h:zbP D.length t 64=0):(zch D t 64).size=64:=by
 unfold zbP at h
 by_cases h1:(64:Int)=0∨zbO D.length t 64=true
 ·have h2:zbO D.length t 64=true:=by rcases h1 with h | h;(cases h);exact h
  unfold zch;rw [if_pos ⟨by decide,h2⟩];have k:=zdH.1 h2;show (((D.drop (t - 2147483648).toNat).take (64:Int).toNat)).toArray.size=64
  rw [List.size_toArray,List.length_take,List.length_drop];have:(64:Int).toNat=64:=rfl;omega
 ·rw [if_neg h1] at h
  cases h
theorem zxK (b:Bd) (F:List ByteArray) (t s n:Int):(ldF b F t s n).2.2.2=true→(ldF b F t s n).1.pl=b.pl:=by
 show (fun R:Bd × List ByteArray × Int × Bool=>R.2.2.2=true→R.1.pl=b.pl) (ldF b F t s n)
 unfold ldF
 iterate 12 refine zad (fun R:Bd × List ByteArray × Int × Bool=>R.2.2.2=true→R.1.pl=b.pl) _ _ _ (fun _=>rfl) ?_
 exact fun h=>by cases h
theorem zm9 (b:Bd) (F:List ByteArray) (t s x:Int):(stF b F t s x).2.2.2.2=true→(stF b F t s x).1.pl=b.pl:=by
 show (fun R:Bd × List ByteArray × Int × ByteArray × Bool=>R.2.2.2.2=true→R.1.pl=b.pl) (stF b F t s x)
 unfold stF
 iterate 10 refine zad (fun R:Bd × List ByteArray × Int × ByteArray × Bool=>R.2.2.2.2=true→R.1.pl=b.pl) _ _ _ (fun _=>rfl) ?_
 exact fun h=>by cases h
theorem zue (b:Bd) (F:List ByteArray) (E:Int) (D:List UInt8) (M:List Int) (k:Int) (es:ByteArray):(actF b F E D M k es).b.pl=b.pl:=by
 unfold actF
 repeat' split
 all_goals rfl
theorem zrs (b:Bd) (F:List ByteArray) (E:Int) (D:List UInt8) (M:List Int) (k:Int) (es:ByteArray) (h16:0≤b.sector) (hr:zax b F=true):zax (actF b F E D M k es).b (actF b F E D M k es).F=true:=by
 obtain ⟨h1,h2,h3,h4⟩:=zej.1 hr;have hs1:b.sec.size=1024:=by unfold hasB at h1;have:=eq_of_beq h1;omega
 show (fun R:Acts=>zax R.b R.F=true) (actF b F E D M k es)
 unfold actF;refine zad (fun R:Acts=>zax R.b R.F=true) _ _ _ hr ?_
 refine zad (fun R:Acts=>zax R.b R.F=true) _ _ _ ?_ ?_
 ·exact zad (fun R:Acts=>zax R.b R.F=true) _ _ _ (za5 hr rfl (Nat.le_refl _)) (za5 hr rfl (Nat.le_refl _))
 refine zad (fun R:Acts=>zax R.b R.F=true) _ _ _ ?_ ?_
 ·by_cases g:16≤b.sector∨zbP D.length b.addr 64≠0
  ·rw [if_pos g]
   exact za5 hr rfl (Nat.le_refl _)
  ·rw [if_neg g,if_pos h1]
   refine zej.2 ⟨?_,h2,h3,h4⟩
   show ((((b.sec.extract 0 (64*b.sector.toNat) ++ zch D b.addr 64) ++ b.sec.extract (64*b.sector.toNat+64) b.sec.size).size:Int)==1024)=true
   have g2:zbP D.length b.addr 64=0:=Classical.byContradiction fun e=>g (.inr e)
   have g1:¬ 16≤b.sector:=fun e=>g (.inl e)
   rw [ByteArray.size_append,ByteArray.size_append,zxO D b.addr g2,beq_iff_eq]
   simp
   omega
 refine zad (fun R:Acts=>zax R.b R.F=true) _ _ _ ?_ ?_
 ·by_cases g:0<F.length
  ·rw [dif_pos g]
   show zax b (if putB D.length b.nicA F[0]=true then F.tail else F)=true
   split
   ·exact zej.2 ⟨h1,h2,by rw [List.length_tail];omega,zkW fun f hf=>zko h4 f (List.mem_of_mem_tail hf)⟩
   ·exact hr
  ·rw [dif_neg g]
   exact hr
 exact zad (fun R:Acts=>zax R.b R.F=true) _ _ _ hr hr
theorem zvb {n:Nat} {M:List Int} {E t:Int} {s:ByteArray} (h:∀ x∈M,x≤E):∀ x∈putM n M E t s,x≤E:=by
 unfold putM
 split
 ·intro x hx
  unfold mk at hx;obtain ⟨k,hk,rfl⟩:=List.mem_mapIdx.1 hx
  split
  ·exact Int.le_refl _
  ·exact h _ (List.getElem_mem _)
 ·exact h
theorem zkz {n:Nat} {M:List Int} {E:Int}:chkB n M E=true ↔ (1≤M.length∧M.length≤256∧n=M.length*256)∧∀ x∈M,x≤E:=by
 unfold chkB;rw [Bool.and_eq_true,decide_eq_true_eq,List.all_eq_true];simp only [decide_eq_true_eq]
theorem zoP (n:Nat) (M:List Int) (E t:Int) (s:ByteArray):(putM n M E t s).length=M.length:=by
 unfold putM
 split
 ·exact zfw _ _ _ _
 ·rfl
theorem zxj (D:List UInt8) (t:Int) (s:ByteArray):(putD D t s).length=D.length:=zfy D t s
theorem zi3 {D:List UInt8} {M:List Int} {E t:Int} {s:ByteArray} (h:chkB D.length M E=true) (n:Nat):chkB (putD D t s).length (putM n M E t s) E=true:=by
 obtain ⟨h1,h2⟩:=zkz.1 h;exact zkz.2 ⟨by rw [zoP,zxj];exact h1,zvb h2⟩
theorem ztI (b:Bd) (F:List ByteArray) (E:Int) (D:List UInt8) (M:List Int) (k:Int) (es:ByteArray) (h:chkB D.length M E=true):chkB (actF b F E D M k es).D.length (actF b F E D M k es).M E=true:=by
 unfold actF
 repeat' split
 all_goals first | exact h | exact zi3 h _
structure BR (v:Mc) (p:Pt):Prop where
 m:chkB p.D.length p.M v.E=true
 b:zax v.b p.F=true
 pl:Pc.zbg v.b.pl=true
theorem BR.ld {v:Mc} {p:Pt} (k:BR v p) (t s:Int):BR (ldM v p t s).1 (ldM v p t s).2.1:=by
 show (fun R:Mc × Pt × Int × Bool=>BR R.1 R.2.1) (ldM v p t s)
 unfold ldM;refine zad (fun R:Mc × Pt × Int × Bool=>BR R.1 R.2.1) _ _ _ k ?_
 refine zad (fun R:Mc × Pt × Int × Bool=>BR R.1 R.2.1) _ _ _ ?_ ?_
 ·by_cases h:(Pc.ldF v.b.pl (zbu v.b p.F) t s).2.2=true
  ·rw [if_pos h]
   exact ⟨k.m,k.b,Pc.zun _ _ _ _ k.pl h⟩
  ·rw [if_neg h]
   exact k
 ·by_cases h:(ldF v.b p.F t s v.cnt).2.2.2=true
  ·rw [if_pos h]
   exact ⟨k.m,zhN _ _ _ _ _ k.b h,by show Pc.zbg (ldF v.b p.F t s v.cnt).1.pl=true;rw [zxK _ _ _ _ _ h];exact k.pl⟩
  ·rw [if_neg h]
   exact k
theorem BR.ac {v:Mc} {p:Pt} (k:BR v p) (hs:0≤v.b.sector) (o:Int) (es:ByteArray):BR (acM v p o es).1 (acM v p o es).2:=by
 have h1:=ztI v.b p.F v.E p.D p.M o es k.m;have h2:=zrs v.b p.F v.E p.D p.M o es hs k.b;have h3:Pc.zbg (actF v.b p.F v.E p.D p.M o es).b.pl=true:=by rw [zue];exact k.pl
 unfold acM
 by_cases h:(actF v.b p.F v.E p.D p.M o es).ok=true
 ·rw [if_pos h];exact ⟨h1,h2,h3⟩
 ·rw [if_neg h];exact ⟨h1,h2,h3⟩
theorem zz3 (b:Bd) (F:List ByteArray) (t s x:Int) (hb:0≤b.sector) (hx:0≤x):(stF b F t s x).2.2.2.2=true→0≤(stF b F t s x).1.sector:=by
 show (fun R:Bd × List ByteArray × Int × ByteArray × Bool=>R.2.2.2.2=true→0≤R.1.sector) (stF b F t s x)
 unfold stF
 iterate 10 refine zad (fun R:Bd × List ByteArray × Int × ByteArray × Bool=>R.2.2.2.2=true→0≤R.1.sector) _ _ _ (fun _=>by first | exact hb | exact hx) ?_
 exact fun h=>by cases h
theorem BR.st {v:Mc} {p:Pt} (k:BR v p) (hs:0≤v.b.sector) (t s x:Int) (hx:0≤x):BR (stM v p t s x).1 (stM v p t s x).2.1:=by
 show (fun R:Mc × Pt × Bool=>BR R.1 R.2.1) (stM v p t s x)
 unfold stM;refine zad (fun R:Mc × Pt × Bool=>BR R.1 R.2.1) _ _ _ k ?_
 refine zad (fun R:Mc × Pt × Bool=>BR R.1 R.2.1) _ _ _ ⟨zi3 k.m _,k.b,k.pl⟩ ?_
 refine zad (fun R:Mc × Pt × Bool=>BR R.1 R.2.1) _ _ _ ?_ ?_
 ·by_cases h:(Pc.stF v.b.pl t s x).2=true
  ·rw [if_pos h]
   exact ⟨k.m,k.b,Pc.zz1 _ _ _ _ k.pl h⟩
  ·rw [if_neg h]
   exact k
 ·by_cases h:(stF v.b p.F t s x).2.2.2.2=true
  ·rw [if_pos h]
   have k1:BR { v with b:=(stF v.b p.F t s x).1 } { p with F:=(stF v.b p.F t s x).2.1 }:=⟨k.m,zhL _ _ _ _ _ k.b h,by show Pc.zbg (stF v.b p.F t s x).1.pl=true;rw [zm9 _ _ _ _ _ h];exact k.pl⟩;refine zad (fun R:Mc × Pt × Bool=>BR R.1 R.2.1) _ _ _ k1 ?_
   exact k1.ac (zz3 _ _ _ _ _ hs hx h) _ _
  ·rw [if_neg h]
   exact k
theorem BR.one {v:Mc} {p:Pt} (k:BR v p) (hs:0≤v.b.sector) {v':Mc} {p':Pt} (o:One v p v' p'):BR v' p':=by
 cases o with
 | no x=>exact ⟨k.m,k.b,k.pl⟩
 | ld x y t s =>
  have g:=BR.ld (v:=turn v x) (p:=p) ⟨k.m,k.b,k.pl⟩ t s;exact ⟨g.m,g.b,g.pl⟩
 | st x y t s u hu =>
  have g:=BR.st (v:=turn v x) (p:=p) ⟨k.m,k.b,k.pl⟩ hs t s u hu.1;exact ⟨g.m,g.b,g.pl⟩
structure Rt (v:Mc) (p:Pt):Prop where
 h:HR v.h
 b:BR v p
theorem zux {v:Mc} {p:Pt} (k:VOk v p) (R:Rt v p):Rt (hsM v p).1 (hsM v p).2:=by
 have g:=R.b.one k.ok.bd.sector.1 (One.spR k.h (wk0 (zci v p)));exact ⟨zz7 k R.h,⟨g.m,g.b,g.pl⟩⟩
theorem zwd {v:Mc} {p:Pt} (k:HOk v.h):chkM v p=0 ↔ Rt v p:=by
 unfold chkM
 constructor
 ·intro h
  by_cases h1:chkB p.D.length p.M v.E=false
  ·rw [if_pos h1] at h;cases h
  rw [if_neg h1] at h
  by_cases h2:(zdd v.h && zax v.b p.F && Pc.zbg v.b.pl)=true
  ·simp only [Bool.and_eq_true] at h2
   exact ⟨(zht k.pc).1 h2.1.1,⟨by simpa using h1,h2.1.2,h2.2⟩⟩
  ·rw [if_neg h2] at h;cases h
 ·intro r
  rw [if_neg (by rw [r.b.m];decide),(zht k.pc).2 r.h,r.b.b,r.b.pl];rfl
end Go.Proofs.YtplcfdnfeclpmaaGreatDoor
namespace Go.Proofs.YtplcfdnfeclpmaaGreatDoor
theorem One.cnt {v:Mc} {p:Pt} {v':Mc} {p':Pt} (o:One v p v' p'):v'.cnt=v.cnt:=by
 cases o with
 | no x=>rfl
 | ld x y t s=>exact (zhi (turn v x) p t s).2.1
 | st x y t s u hu=>exact (zfP (v:=turn v x) (p:=p) t s u).2.1
theorem zwl {v:Mc} {p:Pt} (V:VOk v p):(hsM v p).1.cnt=IntKind.u64.wrap (v.cnt+1):=by
 show IntKind.u64.wrap ((spR v p (wk0 (zci v p))).1.cnt+1)=_
 rw [(One.spR V.h (wk0 (zci v p))).cnt]
theorem zje {s:Mc × Pt × List Rec} (V:VOk s.1 s.2.1) (h0:0≤s.1.cnt):∀ n:Nat,s.1.cnt+n<18446744073709551616→(rnN n s).1.cnt=s.1.cnt+n
 | 0,_=>by show s.1.cnt=_;omega
 | n+1,h=>by
  have ih:=zje V h0 n (by omega);show (hsM (rnN n s).1 { (rnN n s).2.1 with O:=[] }).1.cnt=_
  rw [zwl ((zei V n).noO []),ih,IntKind.wrap_u64];omega
def zfW (n:Int) (O:List Rec):Prop:=n=(O.length:Int)∧∀ k (h:k<O.length),O[k].1=(k:Int)∧O[k].2.2.size≠0
theorem zpU {v:Mc} {p:Pt} {R:List Rec} (V:VOk v p) (h:zfW v.nxt R) (hR:R.length<4294967296):zfW (hsM v { p with O:=[] }).1.nxt (R ++ (hsM v { p with O:=[] }).2.O):=by
 have V0:=V.noO [];have g:=(One.spR V0.h (wk0 (zci v { p with O:=[] }))).grown V0.ok;obtain ⟨h1,h2⟩:=h;rcases g.o with ⟨e1,e2⟩ | ⟨d,s,e1,hs,e2⟩
 ·have e3:(hsM v { p with O:=[] }).2.O=[]:=e1
  have e4:(hsM v { p with O:=[] }).1.nxt=v.nxt:=e2;rw [e3,e4,List.append_nil];exact ⟨h1,h2⟩
 ·have e3:(hsM v { p with O:=[] }).2.O=[(v.nxt,d,s)]:=e1
  have e4:(hsM v { p with O:=[] }).1.nxt=IntKind.u64.wrap (v.nxt+1):=e2;rw [e3,e4];refine ⟨?_,fun k hk=>?_⟩
  ·rw [IntKind.wrap_u64,h1,List.length_append,List.length_singleton]
   omega
  ·by_cases hl:k<R.length
   ·rw [List.getElem_append_left hl]
    exact h2 k hl
   ·have hkk:k=R.length:=by simp at hk;omega
    subst hkk;rw [List.getElem_append_right (Nat.le_refl _)];simp only [Nat.sub_self,List.getElem_cons_zero];exact ⟨h1,hs⟩
theorem zjX {s:Mc × Pt × List Rec} (V:VOk s.1 s.2.1) (h:zfW s.1.nxt s.2.2):∀ n:Nat,s.2.2.length+n<4294967296→zfW (rnN n s).1.nxt (rnN n s).2.2
 | 0,_=>h
 | n+1,hn=>zpU (zei V n) (zjX V h n (by omega)) (by have:=zf5 V n;omega)
theorem Rt.noO {v:Mc} {p:Pt} (R:Rt v p) (O:List Rec):Rt v { p with O:=O }:=⟨R.h,⟨R.b.m,R.b.b,R.b.pl⟩⟩
theorem zir {s:Mc × Pt × List Rec} (V:VOk s.1 s.2.1) (R:Rt s.1 s.2.1):∀ n,Rt (rnN n s).1 (rnN n s).2.1
 | 0=>R
 | n+1=>zux ((zei V n).noO []) ((zir V R n).noO [])
theorem zlt {v:Mc} {p:Pt} (V:VOk v p) (R:Rt v p) (n:Nat):Rt (rnM n v p).1 (rnM n v p).2:=(zir (s:=(v,p,p.O)) V R n).noO _
theorem zoU {v:Mc} {p:Pt} (R:Rt v p) (i:Inp):Rt (gvM v p i).1 (gvM v p i).2 :=
 ⟨R.h,⟨R.b.m,zru _ _ _ _ R.b.b,by
  show Pc.zbg (gvF v.b p.F i.dev i.s).1.pl=true
  rw [(zjy v.b p.F i.dev i.s).1];exact R.b.pl⟩⟩
structure Gd (v:Mc) (p:Pt) (c:Int):Prop where
 ok:SOk v p
 rt:Rt v p
 nm:zfW v.nxt p.O
 cn:v.cnt=c
theorem zoR {v:Mc} {p:Pt} {c:Int} (K:Gd v p c) (h0:0≤c) (hc:c≤1048576) (hO:p.O.length≤1048576) {i:Inp} (hi:inpB i=true):Gd (gvM (rnM i.gap.toNat v p).1 (rnM i.gap.toNat v p).2 i).1 (gvM (rnM i.gap.toNat v p).1 (rnM i.gap.toNat v p).2 i).2 (c+i.gap):=by
 obtain ⟨g1,g2⟩:=zfj hi;have hn:=zjX (s:=(v,p,p.O)) K.ok.ok K.nm i.gap.toNat (by show p.O.length+_<_;omega);have hk:=zje (s:=(v,p,p.O)) K.ok.ok (by show 0≤v.cnt;rw [K.cn];exact h0) i.gap.toNat (by show v.cnt+_<_;rw [K.cn];omega);refine ⟨zha (zg6 K.ok _) i,zoU (zlt K.ok.ok K.rt _) i,hn,?_⟩
 show (rnN i.gap.toNat (v,p,p.O)).1.cnt=_
 rw [hk];show v.cnt+_=_
 rw [K.cn];omega
def zcH:List Inp→Int
 | []=>0
 | i :: L=>i.gap+zcH L
theorem zkf (L:List Inp) (hL:∀ i∈L,inpB i=true):0≤zcH L∧zcH L≤64*L.length:=by
 induction L with
 | nil=>exact ⟨Int.le_refl _,by show (0:Int)≤_;omega⟩
 | cons i L ih =>
  have h:=ih fun x hx=>hL x (by simp [hx])
  have g:=zfj (hL i (by simp));show 0≤i.gap+zcH L∧i.gap+zcH L≤64*((i :: L).length:Int)
  rw [List.length_cons];omega
theorem znO (L:List Inp) {v:Mc} {p:Pt} {c:Int} (K:Gd v p c) (h0:0≤c) (hL:∀ i∈L,inpB i=true) (hc:c+64*L.length≤1048576) (hO:p.O.length+64*L.length≤1048576):Gd (spM L v p).1 (spM L v p).2 (c+zcH L):=by
 induction L generalizing v p c with
 | nil=>show Gd v p (c+0);rw [Int.add_zero];exact K
 | cons i L ih =>
  have hi:=hL i (by simp);have g:=zfj hi;rw [List.length_cons] at hc hO;have K2:=zoR K h0 (by omega) (by omega) hi;have hl:(gvM (rnM i.gap.toNat v p).1 (rnM i.gap.toNat v p).2 i).2.O.length≤p.O.length+i.gap.toNat:=zf5 (s:=(v,p,p.O)) K.ok.ok i.gap.toNat;have:=ih K2 (by omega) (fun x hx=>hL x (by simp [hx])) (by omega) (by omega);rw [Int.add_assoc] at this;exact this
theorem zrE (n:Nat) (s:ByteArray) (h2:n≤256) (hs:s.size≤n*256) (hm:chkB (newP n s).D.length (newP n s).M 0=true) (hr:zdd awH=true) (hb:zax bdN []=true) (hp:Pc.zbg bdN.pl=true):Gd newV (newP n s) 0:=by
 have k:=zhq n s h2 hs;exact ⟨k,⟨(zht k.ok.h.pc).1 hr,⟨hm,hb,hp⟩⟩,⟨rfl,fun k hk=>absurd hk (Nat.not_lt_zero k)⟩,rfl⟩
theorem zpu {v m:Mc} {p:Pt} (s:Same v m):chkM m p=chkM v p:=by rw [s.re];rfl
end Go.Proofs.YtplcfdnfeclpmaaGreatDoor
namespace Go.Proofs.YtplcfdnfeclpmaaGreatDoor
theorem zsS (M:List Inp) (j:Nat) (hj:j<M.length):zcH (M.take (j+1))=zcH (M.take j)+M[j].gap:=by
 induction M generalizing j with
 | nil=>cases hj
 | cons i M ih =>
  cases j with
  | zero=>show i.gap+zcH (M.take 0)=0+i.gap;show i.gap+0=_;omega
  | succ j =>
   have hj':j<M.length:=by simpa using hj
   have:=ih j hj';show i.gap+zcH (M.take (j+1))=i.gap+zcH (M.take j)+M[j].gap
   omega
theorem InAt.gap {w:World} {q:Option Addr} {c:Nat} {L:List Inp} (h:InAt w (.slice q L.length c) L) {j:Nat} (hj:j<L.length):∃ g off,q=some ⟨g,off,none⟩∧w.cell? ⟨g,off+j*4+1,none⟩=some (.int .i64 L[j].gap):=by
 obtain ⟨g,off,cap,e,_,_,hg,hc⟩:=zbb.at h (by omega);simp only [Value.slice.injEq] at e;refine ⟨g,off,e.1,?_⟩
 have k:=hc (4*j+1) (.int .i64 L[j].gap) (by rw [zhH L j hj 1 (by omega)];rfl);rw [show off+j*4+1=off+(4*j+1) by omega];exact k
theorem ztR {w:World} {q:Option Addr} {c:Nat} {O:List Rec} (h:zbb w (.slice q O.length c) 3 O.length (oC O)) {j:Nat} (hj:j<O.length):∃ g off,q=some ⟨g,off,none⟩∧w.cell? ⟨g,off+j*3,none⟩=some (.int .u64 O[j].1)∧w.cell? ⟨g,off+j*3+2,none⟩=some (.string O[j].2.2):=by
 obtain ⟨g,off,cap,e,_,_,hg,hc⟩:=zbb.at h (by omega);simp only [Value.slice.injEq] at e;refine ⟨g,off,e.1,?_,?_⟩
 ·have k:=hc (3*j+0) (.int .u64 O[j].1) (by rw [zk4 O j hj 0 (by omega)];rfl)
  rw [show off+j*3=off+(3*j+0) by omega];exact k
 ·have k:=hc (3*j+2) (.string O[j].2.2) (by rw [zk4 O j hj 2 (by omega)];rfl)
  rw [show off+j*3+2=off+(3*j+2) by omega];exact k
theorem zxQ {s:ByteArray} (h:s.size≠0):s.toList.isEmpty=false:=by
 rw [ByteArray.toList_eq];cases e:s.data.toList with
 | nil=>exact absurd (by have:=congrArg List.length e;simpa using this) h
 | cons a l=>rfl
structure NumR (m:Mc) (p:Pt) (g:Int):Prop where
 cnt:m.cnt=g
 nxt:m.nxt=(p.O.length:Int)
 nm:∀ k (h:k<p.O.length),p.O[k].1=(k:Int)∧p.O[k].2.2.size≠0
 ck:chkM m p=0
 ln:p.O.length≤1048576
theorem zqt {n:Int} {s:ByteArray} {M:List Inp} {m:Mc} (ok:zfS n s M) (h12:M.length≤12) (hs:Same (spM M newV (newP n.toNat s)).1 m):NumR m (spM M newV (newP n.toNat s)).2 (zcH M):=by
 obtain ⟨⟨b1,b2,b3⟩,ho⟩:=ok;have g0:=zrE n.toNat s (by omega) (by omega) (zkK n.toNat s (by omega) (by omega) (by omega)) zj4 ziD zkE;have G:=znO M g0 (Int.le_refl _) ho (by omega) (by show 0+_≤_;omega);have hl:=ziw M g0.ok ho;rw [Int.zero_add] at G;refine ⟨hs.cnt.trans G.cn,?_,G.nm.2,by rw [zpu hs];exact (zwd G.ok.ok.h).2 G.rt,?_⟩
 ·have e:m.nxt=(spM M newV (newP n.toNat s)).1.nxt:=by rw [hs.re]
  rw [e];exact G.nm.1
 ·have:(newP n.toNat s).O.length=0:=rfl
  omega
theorem zqV (s:ByteArray) (n:Int) (L:List Inp) (q:Option Addr) (c:Nat) (W:World) (hL:InAt W (.slice q L.length c) L) (hz:∀ i∈L,i.s.size≤maxLen) (hD:De.Laid W):TB 6 #[.string s,.int .i64 n,.slice q L.length c] W (.bool true):=by
 have C16:=hid (fun w (hb:Below W.heap.size W w)=>zyj q c L w (hL.next hb));have CA:=hid (zyV W hD);have hl12:(L.take 12).length≤12:=by rw [List.length_take];omega
 have hI:∀ w,Below W.heap.size W w→InAt w (.slice q (L.take 12).length c) (L.take 12):=fun w hb=>by
  have:=(hL.next hb).take (k:=(L.take 12).length) (by rw [List.length_take];omega)
  rwa [show L.take (L.take 12).length=L.take 12 by rw [List.length_take,← List.take_take,List.take_length]] at this
 have hz2:∀ i∈L.take 12,i.s.size≤maxLen:=fun i hi=>hz i (List.mem_of_mem_take hi)
 have hcc:(L.take 12).length≤c:=by
  obtain ⟨_,_,e,hc,_⟩:=(hI W (Below.refl _ _)).is;simp only [Value.slice.injEq,true_and] at e;rw [e.2];exact hc
 have H0:=hid (And.intro hI (And.intro hz2 (And.intro hD (And.intro hl12 hcc))));clear hL hz hD hI hz2;generalize L.take 12=M at C16 H0 hl12 hcc;go_enter func6,ntmps6;go_upto_region 3 with (go_at_call 12;(with_reducible refine CA.out.mono ?_);rintro e w1 ⟨rfl,kk⟩;have B1:=hid kk;clear kk);go_upto_region 4 with (go_at_call 16;(with_reducible refine (C16.out w1 B1.out).mono ?_);rintro e w2 ⟨rfl,rfl⟩);have C17:=hid (zo0 n s M q c w1 (H0.out.1 w1 B1.out) H0.out.2.2.2.1 H0.out.2.1 (H0.out.2.2.1.below B1.out));go_upto_region 5 with (first | (go_at_call 17;(with_reducible refine C17.out.mono ?_);rintro e wb ⟨m,k,rfl,m1,kk,hr⟩;have M1:=hid m1;have HR:=hid hr;have BB:=hid (zac B1.out kk);have ZR:=hid (show (wb.alloc (.cells zeroCells42 42)).heap[wb.heap.size]?=some (.cells zeroCells42 42 (0,0)) from heap_alloc_last wb _);clear m1 hr kk) | (with_reducible refine zam rfl rfl (MBox.store m M1.out ZR.out (by kernel_rfl)) rfl rfl ?_));rcases HR.out with ⟨rfl,ok,hs,hm⟩ | ⟨hk,_,rfl⟩
 ·have Q0:=hid (AhI.new BB.out hm)
  have OK:=hid ok;have HS:=hid hs;have NR:=hid (zqt ok H0.out.2.2.2.1 hs);have GL:=hid (zkf M ok.2);clear ok hs hm HR M1 ZR C16 C17 CA HS;generalize wb.heap.size=z at Q0 ⊢;generalize (wb.alloc (.cells zeroCells42 42)).setRow z (mcC m)=wc at Q0 ⊢;generalize (spM M newV (newP n.toNat s)).2=P at NR Q0;go_upto_region 8 with fail;go_wp2_with fail
  go_loopw [10,11] (fun a i wr=>∃ j:Nat,j≤M.length∧i=.int .i64 j∧a=.int .u64 (zcH (M.take j))∧Hid (AhI W wr z m P)) (fun _ i _=>M.length - (intOf i).toNat)
  case atStart=>exact ⟨0,Nat.zero_le _,rfl,rfl,Q0⟩
  case round =>
   obtain ⟨j,hj,rfl,rfl,QQ⟩:=hrel
   by_cases hlt:j<M.length
   ·obtain ⟨g,off,rfl,mg⟩:=(H0.out.1 wr QQ.out.hb).gap hlt
    have hgs:=zsS M j hlt;obtain ⟨gp1,gp2⟩:=zfj (OK.out.2 M[j] (List.getElem_mem ..));have hgl:=zkf (M.take j) fun x hx=>OK.out.2 x (List.mem_of_mem_take hx)
    have hlj:(M.take j).length=j:=by rw [List.length_take];omega
    rw [hlj] at hgl;have HS:=hid hgs;clear hgs hlj;generalize M[j].gap=G at mg gp1 gp2 HS;generalize zcH (M.take j)=A at hgl HS ⊢;have hw1:IntKind.u64.wrap G=G:=by rw [IntKind.wrap_u64];omega
    have hw2:IntKind.u64.wrap (A+G)=A+G:=by rw [IntKind.wrap_u64];omega
    go_wp2_with fail;exact ⟨⟨j+1,by omega,by go_num,by rw [HS.out],QQ⟩,by simp [intOf];omega⟩
   ·have hjm:j=M.length:=by omega
    subst hjm;rw [List.take_length];have R1:=QQ.out.rd.o;obtain ⟨q1,c1,e1⟩:=R1.is;rw [e1] at R1;have R1:=hid R1;have m_ov:wr.cell? ⟨z,78,none⟩=some (.slice q1 P.O.length c1):=(MBox.cell_t QQ.out.bx 5).trans (by show some m.ov=_;rw [e1]);have m_cnt:wr.cell? ⟨z,76,none⟩=some (.int .u64 (zcH M)):=(MBox.cell_t QQ.out.bx 3).trans (by show some (Value.int .u64 m.cnt)=_;rw [NR.out.cnt]);have m_nxt:wr.cell? ⟨z,77,none⟩=some (.int .u64 (P.O.length:Int)):=(MBox.cell_t QQ.out.bx 4).trans (by show some (Value.int .u64 m.nxt)=_;rw [NR.out.nxt]);have C14:=hid (zkM m P wr QQ.out.rd NR.out.ck);rw [NR.out.ck] at C14;have HQ:=hid (And.intro QQ.out.bx QQ.out.hb);have hln:=NR.out.ln;clear e1 Q0 QQ hlt hj;go_wp2_with fail
    go_loopw [12] (fun i w2=>∃ k:Nat,k≤P.O.length∧i=.int .i64 k∧w2=wr) (fun i _=>P.O.length - (intOf i).toNat)
    case atStart=>exact ⟨0,Nat.zero_le _,rfl,rfl⟩
    case round =>
     obtain ⟨k,hk,rfl,rfl⟩:=hrel
     by_cases hlt:k<P.O.length
     ·obtain ⟨g1,off1,rfl,mr,ms⟩:=ztR R1.out hlt
      obtain ⟨n1,n2⟩:=NR.out.nm k hlt;rw [n1] at mr;have hne:=zxQ n2;clear n1 n2 m_cnt m_nxt C14;generalize P.O[k].2.2=ss at ms hne;have hw1:IntKind.u64.wrap (k:Int)=(k:Int):=by rw [IntKind.wrap_u64];omega
      go_wp2_with fail;exact ⟨⟨k+1,by omega,by go_num,trivial⟩,by simp [intOf];omega⟩
     ·have hw1:IntKind.u64.wrap (P.O.length:Int)=(P.O.length:Int):=by rw [IntKind.wrap_u64];omega
      go_wp2_with (first | (with_reducible show wpList _ _ _ (⟨some 82,Op.load 42 _,_,_,_,_⟩ :: _) _ _;refine zbs (by first | exact rfl | (simp [Region.wanted,yielded];done) | (simp [Region.wanted,yielded,Act.put];done)) rfl (MBox.load HQ.out.1) rfl ?_) | (go_at_call 14;(with_reducible refine C14.out.mono ?_);rintro e wf ⟨rfl,kk⟩;have BF:=hid (zac HQ.out.2 kk);clear kk));go_ret;exact ⟨rfl,BF.out⟩
 ·have hb:(k != 0)=true:=by rw [bne_iff_ne];exact hk
  have HB:=hid (below_setRow (zac BB.out (zah wb (.cells zeroCells42 42))) BB.out.size (mcC mcZ));have KX:=hid (show MBox ((wb.alloc (.cells zeroCells42 42)).setRow wb.heap.size (mcC mcZ)) wb.heap.size mcZ from setRow_heap _ _ _ _ 42 (0,0) ZR.out);clear hk HR M1 ZR C16 C17 CA;generalize wb.heap.size=z at HB KX ⊢;generalize (wb.alloc (.cells zeroCells42 42)).setRow z (mcC mcZ)=wc at HB KX ⊢;go_wp2_with (with_reducible refine zaa rfl rfl (MBox.load_cnt KX.out) rfl ?_);go_ret;exact ⟨rfl,HB.out⟩
end Go.Proofs.YtplcfdnfeclpmaaGreatDoor
