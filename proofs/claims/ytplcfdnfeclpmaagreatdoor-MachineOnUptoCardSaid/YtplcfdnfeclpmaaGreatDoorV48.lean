/- MachineOn, part 48. -/
import Derived.SliceStrings
import Derived.SizedLaws
import Derived.Carry
import Derived.Test.YtplcfdnfeclpmaaGreatDoorV23
import Derived.Test.YtplcfdnfeclpmaaGreatDoorV43
import Derived.Test.YtplcfdnfeclpmaaGreatDoorV44
import Derived.Test.YtplcfdnfeclpmaaGreatDoorV45
import Derived.Test.YtplcfdnfeclpmaaGreatDoorV46
import Derived.Test.YtplcfdnfeclpmaaGreatDoorV47
set_option maxHeartbeats 4000000
set_option maxRecDepth 100000
open Go.Lib (hid)
namespace Go.Proofs.YtplcfdnfeclpmaaGreatDoor.Pc
open Go.RowKit Go.Deep Go.Joins
set_option maxRecDepth 100000
theorem zeP (x:Int):zbo x=true ↔ ∀ i,i<32→(bitT x i && !bitT 14 i)=false:=by
 unfold zbo;rw [beq_iff_eq]
 constructor
 ·intro h i hi
  rw [← zcd x 14 i hi,h,zcv]
 ·intro h
  apply zci _ _ (zh1 _ _) zfY
  intro i hi;rw [zcd x 14 i hi,h i hi,zcv]
theorem zvu (a b:Int) (ha:zbo a=true) (hb:zbo b=true):zbo (bits .or .u32 a b)=true:=by
 rw [zeP] at *;intro i hi;have h1:=ha i hi;have h2:=hb i hi;rw [zep]
 revert h1 h2
 cases bitT a i <;> cases bitT b i <;> cases bitT 14 i <;> decide
theorem zt4 (a b:Int) (ha:zbo a=true):zbo (bits .andNot .u32 a b)=true:=by
 rw [zeP] at *;intro i hi;have h1:=ha i hi;rw [zcd a b i hi]
 revert h1
 cases bitT a i <;> cases bitT b i <;> cases bitT 14 i <;> decide
theorem zdi (a:Int):zbo (bits .and .u32 a 14)=true:=by
 rw [zeP];intro i _;rw [zbd];cases bitT a i <;> cases bitT 14 i <;> decide
theorem zo8 (k:Int):zbo (wt k)=true:=by
 by_cases h1:k=1
 ·subst h1;decide +kernel
 by_cases h2:k=2
 ·subst h2;decide +kernel
 by_cases h3:k=3
 ·subst h3;decide +kernel
 have e:wt k=0:=by
  unfold wt
  split <;> first | rfl | omega
 rw [e]
 decide +kernel
theorem zfv (a:Int):bits .and .u32 a 7≤7:=by
 have e:bits .and .u32 a 7=IntKind.u32.wrap (((BitVec.ofInt 32 a &&& BitVec.ofInt 32 7).toNat:Nat):Int):=rfl
 have h:(BitVec.ofInt 32 a &&& BitVec.ofInt 32 7).toNat≤7:=by
  rw [BitVec.toNat_and,show (BitVec.ofInt 32 7).toNat=7 from rfl];exact Nat.and_le_right
 rw [e,IntKind.wrap_u32];omega
theorem za8 (h g:Pl) (hr:zbh h=true) (h0:g.p0=h.p0) (h1:g.p1≤7) (h2:g.p2≤7) (h3:g.p3≤7) (h4:g.l0≤7) (h5:g.l1≤7) (h6:zbo g.e0=true) (h7:zbo g.e1=true) (h8:zbo g.c=true):zbh g=true:=by
 have r:=(zfL h).1 hr;exact (zfL g).2 ⟨⟨by rw [h0];exact r.1.1,h1,h2,h3⟩,⟨h4,h6⟩,⟨h5,h7⟩,h0.trans r.2.2.2.1,h8⟩
theorem zhp (h:Pl) (s t:Int) (hr:zbh h=true) (hx:(ldF h s t 4).2.2=true):zbh (ldF h s t 4).1=true:=by
 have r:=(zfL h).1 hr
 have hc:∀ k,zbh { h with c:=bits .or .u32 h.c (wt k) }=true:=fun k =>
  za8 h _ hr rfl r.1.2.1 r.1.2.2.1 r.1.2.2.2 r.2.1.1 r.2.2.1.1 r.2.1.2 r.2.2.1.2 (zvu _ _ r.2.2.2.2 (zo8 k))
 by_cases h_p1:t=201326596
 ·subst h_p1;exact hr
 by_cases h_p2:t=201326600
 ·subst h_p2;exact hr
 by_cases h_p3:t=201326604
 ·subst h_p3;exact hr
 by_cases h_wait:t=201330688
 ·subst h_wait;exact hr
 by_cases h_e0:t=201334784
 ·subst h_e0;exact hr
 by_cases h_e1:t=201334912
 ·subst h_e1;exact hr
 by_cases h_l0:t=203423744
 ·subst h_l0;exact hr
 by_cases h_l1:t=203427840
 ·subst h_l1;exact hr
 by_cases h_b0:t=203423748
 ·subst h_b0;exact hc _
 by_cases h_b1:t=203427844
 ·subst h_b1;exact hc _
 rw [zb2 h s t 4 (.inr ⟨h_p1,h_p2,h_p3,h_wait,h_e0,h_e1,h_l0,h_l1,h_b0,h_b1⟩)] at hx;cases hx
theorem zkh (h:Pl) (n e:Int) (hc:zbo h.c=true):zbo (zbP h n e)=true:=by
 unfold zbP
 split
 ·exact zt4 _ _ hc
 ·exact hc
theorem zh7 (h:Pl) (t v:Int) (hr:zbh h=true) (hx:(stF h t 4 v).2=true):zbh (stF h t 4 v).1=true:=by
 have r:=(zfL h).1 hr
 by_cases h_p1:t=201326596
 ·subst h_p1;exact za8 h _ hr rfl (zfv _) r.1.2.2.1 r.1.2.2.2 r.2.1.1 r.2.2.1.1 r.2.1.2 r.2.2.1.2 r.2.2.2.2
 by_cases h_p2:t=201326600
 ·subst h_p2;exact za8 h _ hr rfl r.1.2.1 (zfv _) r.1.2.2.2 r.2.1.1 r.2.2.1.1 r.2.1.2 r.2.2.1.2 r.2.2.2.2
 by_cases h_p3:t=201326604
 ·subst h_p3;exact za8 h _ hr rfl r.1.2.1 r.1.2.2.1 (zfv _) r.2.1.1 r.2.2.1.1 r.2.1.2 r.2.2.1.2 r.2.2.2.2
 by_cases h_wait:t=201330688
 ·subst h_wait;rw [ziQ] at hx;cases hx
 by_cases h_e0:t=201334784
 ·subst h_e0;exact za8 h _ hr rfl r.1.2.1 r.1.2.2.1 r.1.2.2.2 r.2.1.1 r.2.2.1.1 (zdi _) r.2.2.1.2 r.2.2.2.2
 by_cases h_e1:t=201334912
 ·subst h_e1;exact za8 h _ hr rfl r.1.2.1 r.1.2.2.1 r.1.2.2.2 r.2.1.1 r.2.2.1.1 r.2.1.2 (zdi _) r.2.2.2.2
 by_cases h_l0:t=203423744
 ·subst h_l0;exact za8 h _ hr rfl r.1.2.1 r.1.2.2.1 r.1.2.2.2 (zfv _) r.2.2.1.1 r.2.1.2 r.2.2.1.2 r.2.2.2.2
 by_cases h_l1:t=203427840
 ·subst h_l1;exact za8 h _ hr rfl r.1.2.1 r.1.2.2.1 r.1.2.2.2 r.2.1.1 (zfv _) r.2.1.2 r.2.2.1.2 r.2.2.2.2
 by_cases h_b0:t=203423748
 ·subst h_b0;exact za8 h _ hr rfl r.1.2.1 r.1.2.2.1 r.1.2.2.2 r.2.1.1 r.2.2.1.1 r.2.1.2 r.2.2.1.2 (zkh h _ _ r.2.2.2.2)
 by_cases h_b1:t=203427844
 ·subst h_b1;exact za8 h _ hr rfl r.1.2.1 r.1.2.2.1 r.1.2.2.2 r.2.1.1 r.2.2.1.1 r.2.1.2 r.2.2.1.2 (zkh h _ _ r.2.2.2.2)
 rw [zbO h t 4 v (.inr ⟨h_p1,h_p2,h_p3,h_wait,h_e0,h_e1,h_l0,h_l1,h_b0,h_b1⟩)] at hx;cases hx
theorem zub (h:Pl) (s t z:Int) (hr:zbh h=true) (hx:(ldF h s t z).2.2=true):zbh (ldF h s t z).1=true:=by
 by_cases hz:z=4
 ·subst hz;exact zhp h s t hr hx
 ·rw [zb2 h s t z (.inl hz)] at hx;cases hx
theorem zu8 (h:Pl) (t z v:Int) (hr:zbh h=true) (hx:(stF h t z v).2=true):zbh (stF h t z v).1=true:=by
 by_cases hz:z=4
 ·subst hz;exact zh7 h t v hr hx
 ·rw [zbO h t z v (.inl hz)] at hx;cases hx
end Go.Proofs.YtplcfdnfeclpmaaGreatDoor.Pc
namespace Go.Proofs.YtplcfdnfeclpmaaGreatDoor
open Go.RowKit Go.Deep Go.Joins
set_option maxRecDepth 100000
theorem zfX {b:Bd} {F:List ByteArray}:zao b F=true ↔ hasB b=true∧b.inn.size≤1024∧F.length≤64∧frB F=true:=by
 unfold zao
 simp [and_assoc]
theorem za8 {b r:Bd} {F:List ByteArray} (h:zao b F=true) (hs:r.sec=b.sec) (hi:r.inn.size≤b.inn.size):zao r F=true:=by
 obtain ⟨h1,h2,h3,h4⟩:=zfX.1 h;refine zfX.2 ⟨?_,Nat.le_trans hi h2,h3,h4⟩
 unfold hasB at h1 ⊢;rw [hs];exact h1
theorem zwa (s:ByteArray):(zeD s).size≤s.size:=by
 unfold zeD
 split
 ·simp
 ·exact Nat.le_refl _
theorem zhp (b:Bd) (F:List ByteArray) (t s n:Int) (hr:zao b F=true):(ldF b F t s n).2.2.2=true→zao (ldF b F t s n).1 (ldF b F t s n).2.1=true:=by
 unfold ldF
 by_cases h:t=33554432∧s=4
 ·simp only [if_pos h]
  intro _;exact za8 hr rfl (Nat.le_refl _)
 simp only [if_neg h];clear h
 by_cases h:t=33570816∧s=8
 ·simp only [if_pos h]
  intro _;exact za8 hr rfl (Nat.le_refl _)
 simp only [if_neg h];clear h
 by_cases h:t=33603576∧s=8
 ·simp only [if_pos h]
  intro _;exact za8 hr rfl (Nat.le_refl _)
 simp only [if_neg h];clear h
 by_cases h:t=268435456∧s=1
 ·simp only [if_pos h]
  intro _;exact za8 hr rfl (zwa _)
 simp only [if_neg h];clear h
 by_cases h:t=268435457∧s=1
 ·simp only [if_pos h]
  intro _;exact za8 hr rfl (Nat.le_refl _)
 simp only [if_neg h];clear h
 by_cases h:t=268435461∧s=1
 ·simp only [if_pos h]
  intro _;exact za8 hr rfl (Nat.le_refl _)
 simp only [if_neg h];clear h
 by_cases h:t=268439552∧s=8
 ·simp only [if_pos h]
  intro _;exact za8 hr rfl (Nat.le_refl _)
 simp only [if_neg h];clear h
 by_cases h:t=268439560∧s=8
 ·simp only [if_pos h]
  intro _;exact za8 hr rfl (Nat.le_refl _)
 simp only [if_neg h];clear h
 by_cases h:t=268439576∧s=8
 ·simp only [if_pos h]
  intro _;exact za8 hr rfl (Nat.le_refl _)
 simp only [if_neg h];clear h
 by_cases h:t=268443648∧s=8
 ·simp only [if_pos h]
  intro _;exact za8 hr rfl (Nat.le_refl _)
 simp only [if_neg h];clear h
 by_cases h:t=268443656∧s=8
 ·simp only [if_pos h]
  intro _;exact za8 hr rfl (Nat.le_refl _)
 simp only [if_neg h];clear h
 by_cases h:t=268443672∧s=8
 ·simp only [if_pos h]
  intro _;exact za8 hr rfl (Nat.le_refl _)
 simp only [if_neg h];clear h;intro h;cases h
theorem zh7 (b:Bd) (F:List ByteArray) (t s v:Int) (hr:zao b F=true):(stF b F t s v).2.2.2.2=true→zao (stF b F t s v).1 (stF b F t s v).2.1=true:=by
 unfold stF
 by_cases h:t=33554432∧s=4
 ·simp only [if_pos h]
  intro _;exact za8 hr rfl (Nat.le_refl _)
 simp only [if_neg h];clear h
 by_cases h:t=33570816∧s=8
 ·simp only [if_pos h]
  intro _;exact za8 hr rfl (Nat.le_refl _)
 simp only [if_neg h];clear h
 by_cases h:t=268435456∧s=1
 ·simp only [if_pos h]
  intro _;exact za8 hr rfl (Nat.le_refl _)
 simp only [if_neg h];clear h
 by_cases h:t=268435457∧s=1
 ·simp only [if_pos h]
  intro _;exact za8 hr rfl (Nat.le_refl _)
 simp only [if_neg h];clear h
 by_cases h:t=268439552∧s=8
 ·simp only [if_pos h]
  intro _;exact za8 hr rfl (Nat.le_refl _)
 simp only [if_neg h];clear h
 by_cases h:t=268439560∧s=8
 ·simp only [if_pos h]
  intro _;exact za8 hr rfl (Nat.le_refl _)
 simp only [if_neg h];clear h
 by_cases h:t=268439568∧s=8
 ·simp only [if_pos h]
  intro _;exact za8 hr rfl (Nat.le_refl _)
 simp only [if_neg h];clear h
 by_cases h:t=268443656∧s=8
 ·simp only [if_pos h]
  intro _;exact za8 hr rfl (Nat.le_refl _)
 simp only [if_neg h];clear h
 by_cases h:t=268443664∧s=8
 ·simp only [if_pos h]
  intro _;exact za8 hr rfl (Nat.le_refl _)
 simp only [if_neg h];clear h
 by_cases h:t=268443672∧s=8
 ·simp only [if_pos h]
  intro _;exact za8 hr rfl (Nat.le_refl _)
 simp only [if_neg h];clear h;intro h;cases h
theorem zpB {F:List ByteArray} (h:frB F=true) (f:ByteArray) (hf:f∈F):f.size≤64:=by
 unfold frB at h;exact of_decide_eq_true (List.all_eq_true.1 h f hf)
theorem zxp {F:List ByteArray} (h:∀ f∈F,f.size≤64):frB F=true:=by
 unfold frB;exact List.all_eq_true.2 fun f hf=>decide_eq_true (h f hf)
theorem zrj (D:List UInt8) (t:Int) (h:zb0 D.length t 64=0):(zcg D t 64).size=64:=by
 unfold zb0 at h
 by_cases h1:(64:Int)=0∨zbV D.length t 64=true
 ·have h2:zbV D.length t 64=true:=by rcases h1 with h | h;(cases h);exact h
  unfold zcg;rw [if_pos ⟨by decide,h2⟩];have k:=zdX.1 h2;show (((D.drop (t - 2147483648).toNat).take (64:Int).toNat)).toArray.size=64
  rw [List.size_toArray,List.length_take,List.length_drop];have:(64:Int).toNat=64:=rfl;omega
 ·rw [if_neg h1] at h
  cases h
theorem zt9 (b:Bd) (F:List ByteArray) (t s n:Int):(ldF b F t s n).2.2.2=true→(ldF b F t s n).1.pl=b.pl:=by
 show (fun R:Bd × List ByteArray × Int × Bool=>R.2.2.2=true→R.1.pl=b.pl) (ldF b F t s n)
 unfold ldF
 iterate 12 refine zaf (fun R:Bd × List ByteArray × Int × Bool=>R.2.2.2=true→R.1.pl=b.pl) _ _ _ (fun _=>rfl) ?_
 exact fun h=>by cases h
theorem zma (b:Bd) (F:List ByteArray) (t s x:Int):(stF b F t s x).2.2.2.2=true→(stF b F t s x).1.pl=b.pl:=by
 show (fun R:Bd × List ByteArray × Int × ByteArray × Bool=>R.2.2.2.2=true→R.1.pl=b.pl) (stF b F t s x)
 unfold stF
 iterate 10 refine zaf (fun R:Bd × List ByteArray × Int × ByteArray × Bool=>R.2.2.2.2=true→R.1.pl=b.pl) _ _ _ (fun _=>rfl) ?_
 exact fun h=>by cases h
theorem zzo (b:Bd) (F:List ByteArray) (E:Int) (D:List UInt8) (M:List Int) (k:Int) (es:ByteArray):(actF b F E D M k es).b.pl=b.pl:=by
 unfold actF
 repeat' split
 all_goals rfl
theorem zng (b:Bd) (F:List ByteArray) (E:Int) (D:List UInt8) (M:List Int) (k:Int) (es:ByteArray) (h16:0≤b.sector) (hr:zao b F=true):zao (actF b F E D M k es).b (actF b F E D M k es).F=true:=by
 obtain ⟨h1,h2,h3,h4⟩:=zfX.1 hr;have hs1:b.sec.size=1024:=by unfold hasB at h1;have:=eq_of_beq h1;omega
 show (fun R:Acts=>zao R.b R.F=true) (actF b F E D M k es)
 unfold actF;refine zaf (fun R:Acts=>zao R.b R.F=true) _ _ _ hr ?_
 refine zaf (fun R:Acts=>zao R.b R.F=true) _ _ _ ?_ ?_
 ·exact zaf (fun R:Acts=>zao R.b R.F=true) _ _ _ (za8 hr rfl (Nat.le_refl _)) (za8 hr rfl (Nat.le_refl _))
 refine zaf (fun R:Acts=>zao R.b R.F=true) _ _ _ ?_ ?_
 ·by_cases g:16≤b.sector∨zb0 D.length b.addr 64≠0
  ·rw [if_pos g]
   exact za8 hr rfl (Nat.le_refl _)
  ·rw [if_neg g,if_pos h1]
   refine zfX.2 ⟨?_,h2,h3,h4⟩
   show ((((b.sec.extract 0 (64*b.sector.toNat) ++ zcg D b.addr 64) ++ b.sec.extract (64*b.sector.toNat+64) b.sec.size).size:Int)==1024)=true
   have g2:zb0 D.length b.addr 64=0:=Classical.byContradiction fun e=>g (.inr e)
   have g1:¬ 16≤b.sector:=fun e=>g (.inl e)
   rw [ByteArray.size_append,ByteArray.size_append,zrj D b.addr g2,beq_iff_eq]
   simp
   omega
 refine zaf (fun R:Acts=>zao R.b R.F=true) _ _ _ ?_ ?_
 ·by_cases g:0<F.length
  ·rw [dif_pos g]
   show zao b (if putB D.length b.nicA F[0]=true then F.tail else F)=true
   split
   ·exact zfX.2 ⟨h1,h2,by rw [List.length_tail];omega,zxp fun f hf=>zpB h4 f (List.mem_of_mem_tail hf)⟩
   ·exact hr
  ·rw [dif_neg g]
   exact hr
 exact zaf (fun R:Acts=>zao R.b R.F=true) _ _ _ hr hr
theorem zwI {n:Nat} {M:List Int} {E t:Int} {s:ByteArray} (h:∀ x∈M,x≤E):∀ x∈putM n M E t s,x≤E:=by
 unfold putM
 split
 ·intro x hx
  unfold mk at hx;obtain ⟨k,hk,rfl⟩:=List.mem_mapIdx.1 hx
  split
  ·exact Int.le_refl _
  ·exact h _ (List.getElem_mem _)
 ·exact h
theorem ziN {n:Nat} {M:List Int} {E:Int}:chkB n M E=true ↔ (1≤M.length∧M.length≤256∧n=M.length*256)∧∀ x∈M,x≤E:=by
 unfold chkB;rw [Bool.and_eq_true,decide_eq_true_eq,List.all_eq_true];simp only [decide_eq_true_eq]
theorem zrZ (n:Nat) (M:List Int) (E t:Int) (s:ByteArray):(putM n M E t s).length=M.length:=by
 unfold putM
 split
 ·exact zgd _ _ _ _
 ·rfl
theorem zuy (D:List UInt8) (t:Int) (s:ByteArray):(putD D t s).length=D.length:=zf8 D t s
theorem ziF {D:List UInt8} {M:List Int} {E t:Int} {s:ByteArray} (h:chkB D.length M E=true) (n:Nat):chkB (putD D t s).length (putM n M E t s) E=true:=by
 obtain ⟨h1,h2⟩:=ziN.1 h;exact ziN.2 ⟨by rw [zrZ,zuy];exact h1,zwI h2⟩
theorem zyg (b:Bd) (F:List ByteArray) (E:Int) (D:List UInt8) (M:List Int) (k:Int) (es:ByteArray) (h:chkB D.length M E=true):chkB (actF b F E D M k es).D.length (actF b F E D M k es).M E=true:=by
 unfold actF
 repeat' split
 all_goals first | exact h | exact ziF h _
structure BR (v:Mc) (p:Pt):Prop where
 m:chkB p.D.length p.M v.E=true
 b:zao v.b p.F=true
 pl:Pc.zbh v.b.pl=true
theorem BR.ld {v:Mc} {p:Pt} (k:BR v p) (t s:Int):BR (ldM v p t s).1 (ldM v p t s).2.1:=by
 show (fun R:Mc × Pt × Int × Bool=>BR R.1 R.2.1) (ldM v p t s)
 unfold ldM;refine zaf (fun R:Mc × Pt × Int × Bool=>BR R.1 R.2.1) _ _ _ k ?_
 refine zaf (fun R:Mc × Pt × Int × Bool=>BR R.1 R.2.1) _ _ _ ?_ ?_
 ·by_cases h:(Pc.ldF v.b.pl (zbB v.b p.F) t s).2.2=true
  ·rw [if_pos h]
   exact ⟨k.m,k.b,Pc.zub _ _ _ _ k.pl h⟩
  ·rw [if_neg h]
   exact k
 ·by_cases h:(ldF v.b p.F t s v.cnt).2.2.2=true
  ·rw [if_pos h]
   exact ⟨k.m,zhp _ _ _ _ _ k.b h,by show Pc.zbh (ldF v.b p.F t s v.cnt).1.pl=true;rw [zt9 _ _ _ _ _ h];exact k.pl⟩
  ·rw [if_neg h]
   exact k
theorem BR.ac {v:Mc} {p:Pt} (k:BR v p) (hs:0≤v.b.sector) (o:Int) (es:ByteArray):BR (acM v p o es).1 (acM v p o es).2:=by
 have h1:=zyg v.b p.F v.E p.D p.M o es k.m;have h2:=zng v.b p.F v.E p.D p.M o es hs k.b;have h3:Pc.zbh (actF v.b p.F v.E p.D p.M o es).b.pl=true:=by rw [zzo];exact k.pl
 unfold acM
 by_cases h:(actF v.b p.F v.E p.D p.M o es).ok=true
 ·rw [if_pos h];exact ⟨h1,h2,h3⟩
 ·rw [if_neg h];exact ⟨h1,h2,h3⟩
theorem zuM (b:Bd) (F:List ByteArray) (t s x:Int) (hb:0≤b.sector) (hx:0≤x):(stF b F t s x).2.2.2.2=true→0≤(stF b F t s x).1.sector:=by
 show (fun R:Bd × List ByteArray × Int × ByteArray × Bool=>R.2.2.2.2=true→0≤R.1.sector) (stF b F t s x)
 unfold stF
 iterate 10 refine zaf (fun R:Bd × List ByteArray × Int × ByteArray × Bool=>R.2.2.2.2=true→0≤R.1.sector) _ _ _ (fun _=>by first | exact hb | exact hx) ?_
 exact fun h=>by cases h
theorem BR.st {v:Mc} {p:Pt} (k:BR v p) (hs:0≤v.b.sector) (t s x:Int) (hx:0≤x):BR (stM v p t s x).1 (stM v p t s x).2.1:=by
 show (fun R:Mc × Pt × Bool=>BR R.1 R.2.1) (stM v p t s x)
 unfold stM;refine zaf (fun R:Mc × Pt × Bool=>BR R.1 R.2.1) _ _ _ k ?_
 refine zaf (fun R:Mc × Pt × Bool=>BR R.1 R.2.1) _ _ _ ⟨ziF k.m _,k.b,k.pl⟩ ?_
 refine zaf (fun R:Mc × Pt × Bool=>BR R.1 R.2.1) _ _ _ ?_ ?_
 ·by_cases h:(Pc.stF v.b.pl t s x).2=true
  ·rw [if_pos h]
   exact ⟨k.m,k.b,Pc.zu8 _ _ _ _ k.pl h⟩
  ·rw [if_neg h]
   exact k
 ·by_cases h:(stF v.b p.F t s x).2.2.2.2=true
  ·rw [if_pos h]
   have k1:BR { v with b:=(stF v.b p.F t s x).1 } { p with F:=(stF v.b p.F t s x).2.1 }:=⟨k.m,zh7 _ _ _ _ _ k.b h,by show Pc.zbh (stF v.b p.F t s x).1.pl=true;rw [zma _ _ _ _ _ h];exact k.pl⟩;refine zaf (fun R:Mc × Pt × Bool=>BR R.1 R.2.1) _ _ _ k1 ?_
   exact k1.ac (zuM _ _ _ _ _ hs hx h) _ _
  ·rw [if_neg h]
   exact k
theorem BR.one {v:Mc} {p:Pt} (k:BR v p) (hs:0≤v.b.sector) {v':Mc} {p':Pt} (o:One v p v' p'):BR v' p':=by
 cases o with
 | no x=>exact ⟨k.m,k.b,k.pl⟩
 | ld x y t s =>
  have g:=BR.ld (v:=turn v x) (p:=p) ⟨k.m,k.b,k.pl⟩ t s;exact ⟨g.m,g.b,g.pl⟩
 | st x y t s u hu =>
  have g:=BR.st (v:=turn v x) (p:=p) ⟨k.m,k.b,k.pl⟩ hs t s u hu.1;exact ⟨g.m,g.b,g.pl⟩
structure Rt (v:Mc) (p:Pt):Prop where
 h:HR v.h
 b:BR v p
theorem zuT {v:Mc} {p:Pt} (k:VOk v p) (R:Rt v p):Rt (hsM v p).1 (hsM v p).2:=by
 have g:=R.b.one k.ok.bd.sector.1 (One.spR k.h (wk0 (zcJ v p)));exact ⟨zps k R.h,⟨g.m,g.b,g.pl⟩⟩
theorem zlc {v:Mc} {p:Pt} (k:HOk v.h):chkM v p=0 ↔ Rt v p:=by
 unfold chkM
 constructor
 ·intro h
  by_cases h1:chkB p.D.length p.M v.E=false
  ·rw [if_pos h1] at h;cases h
  rw [if_neg h1] at h
  by_cases h2:(za4 v.h && zao v.b p.F && Pc.zbh v.b.pl)=true
  ·simp only [Bool.and_eq_true] at h2
   exact ⟨(zk1 k.pc).1 h2.1.1,⟨by simpa using h1,h2.1.2,h2.2⟩⟩
  ·rw [if_neg h2] at h;cases h
 ·intro r
  rw [if_neg (by rw [r.b.m];decide),(zk1 k.pc).2 r.h,r.b.b,r.b.pl];rfl
end Go.Proofs.YtplcfdnfeclpmaaGreatDoor
namespace Go.Proofs.YtplcfdnfeclpmaaGreatDoor
open Go.RowKit Go.Deep Go.Joins
set_option maxRecDepth 100000
theorem Rt.noO {v:Mc} {p:Pt} (R:Rt v p) (O:List Rec):Rt v { p with O:=O }:=⟨R.h,⟨R.b.m,R.b.b,R.b.pl⟩⟩
theorem zjM {s:Mc × Pt × List Rec} (V:VOk s.1 s.2.1) (R:Rt s.1 s.2.1):∀ n,Rt (rnN n s).1 (rnN n s).2.1
 | 0=>R
 | n+1=>zuT ((zfH V n).noO []) ((zjM V R n).noO [])
theorem zAR {v:Mc} {p:Pt} (V:VOk v p) (R:Rt v p) (n:Nat):Rt (rnM n v p).1 (rnM n v p).2:=(zjM (s:=(v,p,p.O)) V R n).noO _
theorem zzi {v m:Mc} {p:Pt} (s:Same v m):chkM m p=chkM v p:=by rw [s.re];rfl
end Go.Proofs.YtplcfdnfeclpmaaGreatDoor
namespace Go.Proofs.YtplcfdnfeclpmaaGreatDoor
open Go.RowKit Go.Deep Go.Joins
set_option maxRecDepth 100000
theorem ziz:∀ (b:Nat) (s t:Mc × Pt × List Rec),s.1=t.1→s.2.2=t.2.2→({ s.2.1 with O:=[] }:Pt)={ t.2.1 with O:=[] }→(rnN b s).1=(rnN b t).1∧(rnN b s).2.2=(rnN b t).2.2∧({ (rnN b s).2.1 with O:=[] }:Pt)={ (rnN b t).2.1 with O:=[] }
 | 0,_,_,h1,h2,h3=>⟨h1,h2,h3⟩
 | b+1,s,t,h1,h2,h3=>by
  have ih:=ziz b s t h1 h2 h3
  have e:rnN (b+1) s=rnN (b+1) t:=by
   show rnS (rnN b s)=rnS (rnN b t)
   unfold rnS;rw [ih.1,ih.2.1,ih.2.2]
  rw [e];exact ⟨rfl,rfl,rfl⟩
theorem zyt (a b:Nat) (v:Mc) (p:Pt):rnM b (rnM a v p).1 (rnM a v p).2=rnM (a+b) v p:=by
 have k:=ziz b ((rnM a v p).1,(rnM a v p).2,(rnM a v p).2.O) (rnN a (v,p,p.O)) rfl rfl rfl;rw [zuC] at k;obtain ⟨k1,k2,k3⟩:=k;have k4:∀ R,({ (rnN b ((rnM a v p).1,(rnM a v p).2,(rnM a v p).2.O)).2.1 with O:=R }:Pt)={ (rnN (a+b) (v,p,p.O)).2.1 with O:=R }:=fun R=>congrArg (fun x:Pt=>{ x with O:=R }) k3
 show ((rnN b ((rnM a v p).1,(rnM a v p).2,(rnM a v p).2.O)).1,({ (rnN b ((rnM a v p).1,(rnM a v p).2,(rnM a v p).2.O)).2.1 with O:=(rnN b ((rnM a v p).1,(rnM a v p).2,(rnM a v p).2.O)).2.2 }:Pt))=_
 rw [k1,k2,k4];rfl
theorem Same.alike2 {v a b:Mc} (s:Same v a) (t:Same v b):Like a b:=by
 have h:=s.alike;have k:=t.alike;exact ⟨k.h.trans h.h.symm,by rw [k.b,h.b];rfl,k.E.trans h.E.symm,k.cnt.trans h.cnt.symm,k.nxt.trans h.nxt.symm⟩
theorem ziu (n:Int):∃ a:Nat,a≤99∧wrap64 ((IntKind.u64.wrap n).tmod 100)=(a:Int):=by
 have h:0≤IntKind.u64.wrap n:=by rw [IntKind.wrap_u64];omega
 rw [Int.tmod_eq_emod_of_nonneg h];refine ⟨(IntKind.u64.wrap n % 100).toNat,by omega,?_⟩
 unfold wrap64;omega
theorem zfa (wb:World) (x:Mc):MBox ((wb.alloc (.cells Tryz.zeroCells42 42)).setRow wb.heap.size (mcC x)) wb.heap.size x∧Below wb.heap.size wb ((wb.alloc (.cells Tryz.zeroCells42 42)).setRow wb.heap.size (mcC x)) :=
 ⟨setRow_heap _ _ _ _ 42 (0,0) (heap_alloc_last wb _),below_setRow (zag wb _) (Nat.le_refl _) _⟩
theorem ztv (m:Mc) (p:Pt) (a b:Nat) (V:VOk m p) (hO:(p.O.length+200)*32≤140737488355328) (ha:a≤99) (hb:b≤99):a≤65536∧b≤65536∧a+b≤65536∧(p.O.length+a+1)*32≤140737488355328∧((rnM a m p).2.O.length+b+1)*32≤140737488355328∧(p.O.length+(a+b)+1)*32≤140737488355328∧wrap64 ((a:Int)+(b:Int))=((a+b:Nat):Int):=by
 have h3:(rnM a m p).2.O.length≤p.O.length+a:=zhU (s:=(m,p,p.O)) V a;generalize (rnM a m p).2.O.length=r at h3 ⊢;generalize p.O.length=o at h3 hO ⊢;clear V;have le:∀ x,x≤o+200→x*32≤140737488355328:=fun x hx=>Nat.le_trans (Nat.mul_le_mul_right 32 hx) hO
 clear hO;refine ⟨by omega,by omega,by omega,le _ (by omega),le _ (by omega),le _ (by omega),?_⟩
 clear le;unfold wrap64;omega
theorem zuA (m:Mc) (p:Pt) (n1 n2:Int) (W:World) (K:MR W m p) (V:VOk m p) (hO:(p.O.length+200)*32≤140737488355328) (hD:De.Laid W) (hk:chkM m p=0):TB 4 #[mcV m,.int .i64 n1,.int .i64 n2] W (.bool true):=by
 have CA:=hid (fun w (hb:Below W.heap.size W w)=>zi3 w (hD.below hb));have H0:=hid (And.intro K (And.intro V (And.intro hO (And.intro hD hk))));obtain ⟨a,ha,ea⟩:=ziu n1;obtain ⟨b,hb,eb⟩:=ziu n2;have HN:=hid (And.intro ea eb);have HA:=hid (ztv m p a b V hO ha hb);clear K V hO hD hk ea eb ha hb;go_enter Tryz.func4,Tryz.ntmps4;go_upto_region 1 with fail;have X:=hid (MBox.new W m);have B:=hid (zag W (mcO m));generalize W.alloc (mcO m)=wa at X B ⊢;go_upto_region 3 with (go_at_call 12;(with_reducible refine (CA.out _ B.out).mono ?_);rintro e w1 ⟨rfl,kk⟩;have X1:=hid (X.out.next kk);have B1:=hid (zac B.out kk);clear kk);clear CA X B;go_upto_region 4 with fail;rw [HN.out.1,HN.out.2];have C1:=hid (zhV m m p a w1 (H0.out.1.next B1.out) (Same.refl m) H0.out.2.1 H0.out.2.2.2.2 HA.out.1 HA.out.2.2.2.1 (H0.out.2.2.2.1.below B1.out));go_upto_region 5 with (first | (with_reducible refine zaa rfl rfl (MBox.load X1.out) rfl ?_) | (go_at_call 13;(with_reducible refine C1.out.mono ?_);rintro e wb ⟨x,rfl,x1,xs,⟨Bx,zx,hx,xm⟩,kk⟩;have M1:=hid x1;have S1:=hid xs;have R1:=hid xm.rd;have K1:=hid kk;clear x1 xs xm kk;have ZR:=hid (show (wb.alloc (.cells Tryz.zeroCells42 42)).heap[wb.heap.size]?=some (.cells Tryz.zeroCells42 42 (0,0)) from heap_alloc_last wb _)) | (with_reducible refine zan rfl rfl (MBox.store x M1.out ZR.out (by kernel_rfl)) rfl rfl ?_));have Z7:=hid (zfa wb x).1;have KB:=hid (zfa wb x).2;have X2:=hid (X1.out.next (zac K1.out KB.out));have RX:=hid (R1.out.next KB.out)
 have B2:=hid (zac B1.out (zac K1.out KB.out));have HZ:=hid (show W.heap.size<wb.heap.size from Nat.lt_of_lt_of_le X1.out.lt K1.out.size);clear KB K1 R1 X1 ZR C1 B1 M1;generalize wb.heap.size=z at Z7 HZ X2 RX B2 ⊢;generalize (wb.alloc (.cells Tryz.zeroCells42 42)).setRow z (mcC x)=wc at Z7 X2 RX B2 ⊢;have CK:=hid (show chkM x (rnM a m p).2=0 from by rw [zzi S1.out];exact (zlc (zjE H0.out.2.1 a).h).2 (zAR H0.out.2.1 ((zlc H0.out.2.1.h).1 H0.out.2.2.2.2) a));have C2:=hid (zhV (rnM a m p).1 x (rnM a m p).2 b wc RX.out S1.out (zjE H0.out.2.1 a) CK.out HA.out.2.1 HA.out.2.2.2.2.1 (H0.out.2.2.2.1.below B2.out));rw [zyt] at C2;have C3:=hid (fun w (hw:Below W.heap.size W w)=>ziq m p (a+b) w (H0.out.1.next hw) H0.out.2.1 H0.out.2.2.2.2 HA.out.2.2.1 HA.out.2.2.2.2.2.1 (H0.out.2.2.2.1.below hw));generalize hv:(rnM (a+b) m p).1=v at C2 C3;generalize hP:(rnM (a+b) m p).2=P at C2 C3;clear hv hP CK RX S1 HN H0;go_upto_region 8 with (first | (with_reducible refine zaa rfl rfl (MBox.load Z7.out) rfl ?_) | (go_at_call 13;(with_reducible refine C2.out.mono ?_);rintro e wd ⟨y,rfl,y1,ys,⟨By,zy,hy,ym⟩,kk⟩;have M2:=hid y1;have S2:=hid ys;have YM:=hid (And.intro hy ym);have K2:=hid kk;have G2:=hid (show wd.heap[z]?=some (.cells (mcC x) 42 (0,0)) from Z7.out.next kk);clear y1 ys hy ym kk) | (with_reducible refine zan rfl rfl (MBox.store y M2.out G2.out (zcA x)) rfl rfl ?_));have hzc:=Z7.out.lt;have Z8:=hid (show MBox (wd.setRow z (mcC y)) z y from setRow_heap wd z _ _ 42 (0,0) G2.out)
 have X3:=hid (show MBox (wd.setRow z (mcC y)) W.heap.size m from (setRow_other _ _ _ _ (by have:=HZ.out;omega)).trans (X2.out.next K2.out));have RY:=hid (YM.out.2.other (g:=z) (by have:=YM.out.1;omega) (mcC y)).rd;have B3:=hid (below_setRow (zac B2.out K2.out) (Nat.le_of_lt HZ.out) (mcC y));clear Z7 X2 B2 C2 G2 YM K2 M2 hzc;generalize wd.setRow z (mcC y)=we at Z8 X3 RY B3 ⊢;have C3:=hid (C3.out we B3.out);go_upto_region 9 with (first | (with_reducible refine zaa rfl rfl (MBox.load X3.out) rfl ?_) | (go_at_call 13;(try rw [HA.out.2.2.2.2.2.2]);(with_reducible refine C3.out.mono ?_);rintro e wf ⟨u,rfl,u1,us,ur,kk⟩;have M3:=hid u1;have S3:=hid us;have RU:=hid ur;have K3:=hid kk;clear u1 us ur kk;have ZR:=hid (show (wf.alloc (.cells Tryz.zeroCells42 42)).heap[wf.heap.size]?=some (.cells Tryz.zeroCells42 42 (0,0)) from heap_alloc_last wf _)) | (with_reducible refine zan rfl rfl (MBox.store u M3.out ZR.out (by kernel_rfl)) rfl rfl ?_));have U9:=hid (zfa wf u).1;have KB:=hid (zfa wf u).2;have Z9:=hid (Z8.out.next (zac K3.out KB.out));have C15:=hid (zqp y u P _ (RY.out.next (zac K3.out KB.out)) (RU.out.next KB.out) (Same.alike2 S2.out S3.out));have B4:=hid (zac B3.out (zac K3.out KB.out));clear KB K3 RU RY X3 ZR C3 B3 M3 Z8 S2 S3;generalize wf.heap.size=z2 at U9 Z9 C15 B4 ⊢;generalize (wf.alloc (.cells Tryz.zeroCells42 42)).setRow z2 (mcC u)=wg at U9 Z9 C15 B4 ⊢
 go_wp2_with (first | (with_reducible first | refine zaa rfl rfl (MBox.load Z9.out) rfl ?_ | refine zaa rfl rfl (MBox.load U9.out) rfl ?_) | (with_reducible show wpList _ _ _ (⟨some 55,Op.load 42 _,_,_,_,_⟩ :: _) _ _;refine zaU (by first | exact rfl | (simp [Region.wanted,yielded];done) | (simp [Region.wanted,yielded,Act.put];done)) rfl (MBox.load Z9.out) rfl ?_) | (with_reducible show wpList _ _ _ (⟨some 56,Op.load 42 _,_,_,_,_⟩ :: _) _ _;refine zaU (by first | exact rfl | (simp [Region.wanted,yielded];done) | (simp [Region.wanted,yielded,Act.put];done)) rfl (MBox.load U9.out) rfl ?_) | (go_at_call 15;(with_reducible refine C15.out.mono ?_);rintro e wh ⟨rfl,kk⟩;have B5:=hid (zac B4.out kk);clear kk));go_ret;exact ⟨rfl,B5.out⟩
end Go.Proofs.YtplcfdnfeclpmaaGreatDoor
namespace Go.Proofs.YtplcfdnfeclpmaaGreatDoor
open Go.RowKit Go.Deep Go.Joins
set_option maxRecDepth 100000
theorem zsE (m:Mc) (p:Pt) (n1 n2:Int) (W:World) (K:MR W m p) (hD:De.Laid W) (hk:chkM m p≠0):TB 4 #[mcV m,.int .i64 n1,.int .i64 n2] W (.bool true):=by
 have CA:=hid (fun w (hb:Below W.heap.size W w)=>zi3 w (hD.below hb));have C13:=hid (fun w n (hb:Below W.heap.size W w)=>zrJ m p n w (K.next hb) hk);have C14:=hid (fun w (hb:Below W.heap.size W w)=>zi7 m p w (K.next hb));have hb:(chkM m p != 0)=true:=by rw [bne_iff_ne];exact hk
 have he:(chkM m p==chkM m p)=true:=by rw [beq_iff_eq]
 clear K hD hk;generalize chkM m p=k at C13 C14 hb he;go_enter Tryz.func4,Tryz.ntmps4;go_upto_region 1 with fail;have X:=hid (MBox.new W m);have B:=hid (zag W (mcO m));generalize W.alloc (mcO m)=wa at X B ⊢;go_upto_region 3 with (go_at_call 12;(with_reducible refine (CA.out _ B.out).mono ?_);rintro e w1 ⟨rfl,kk⟩;have X1:=hid (X.out.next kk);have B1:=hid (zac B.out kk);clear kk);clear CA X B;have M1:=hid zkF;go_upto_region 5 with (first | (with_reducible refine zaa rfl rfl (MBox.load X1.out) rfl ?_) | (go_at_call 13;(with_reducible refine (C13.out _ _ B1.out).mono ?_);rintro e wb ⟨rfl,kk⟩;have K1:=hid kk;clear kk;have ZR:=hid (show (wb.alloc (.cells Tryz.zeroCells42 42)).heap[wb.heap.size]?=some (.cells Tryz.zeroCells42 42 (0,0)) from heap_alloc_last wb _)) | (with_reducible refine zan rfl rfl (MBox.store mcZ M1.out ZR.out (by kernel_rfl)) rfl rfl ?_));have X2:=hid (X1.out.next (zac K1.out (zfa wb mcZ).2));have B2:=hid (zac B1.out (zac K1.out (zfa wb mcZ).2));clear X1 B1 K1 ZR C13;generalize (wb.alloc (.cells Tryz.zeroCells42 42)).setRow wb.heap.size (mcC mcZ)=wc at X2 B2 ⊢;go_wp2_with (first | (with_reducible refine zaa rfl rfl (MBox.load X2.out) rfl ?_) | (go_at_call 14;(with_reducible refine (C14.out _ B2.out).mono ?_);rintro e wd ⟨rfl,kk⟩;have B3:=hid (zac B2.out kk);clear kk));go_ret;exact ⟨by first | rfl | simp,B3.out⟩
theorem zvq (m:Mc) (p:Pt) (n1 n2:Int) (W:World) (K:MR W m p) (V:VOk m p) (hO:(p.O.length+200)*32≤140737488355328) (hD:De.Laid W):TB 4 #[mcV m,.int .i64 n1,.int .i64 n2] W (.bool true):=by
 by_cases hk:chkM m p=0
 ·exact zuA m p n1 n2 W K V hO hD hk
 ·exact zsE m p n1 n2 W K hD hk
end Go.Proofs.YtplcfdnfeclpmaaGreatDoor


namespace Go.Proofs.YtplcfdnfeclpmaaGreatDoor
open Go.RowKit Go.Deep Go.Joins Go.WideShapes Go.ChangeShapes Go.ChangeAt
theorem own:ownKnob Tryz.prog.godebug=none:=by kernel_rfl
theorem zix:laidOutB Tryz.prog=true:=by kernel_rfl
theorem zjv:Tryz.prog.cellsOf 39=3:=by kernel_rfl
theorem zxO:Tryz.prog.cellsOf 5=1:=by kernel_rfl
theorem zbx:Tryz.prog.cellsOf 22=1:=by kernel_rfl
theorem znv:Tryz.prog.bytesOf 5=1:=by kernel_rfl
theorem ztB:Tryz.prog.bytesOf 22=8:=by kernel_rfl
def toB (zs:List Int):List UInt8:=zs.map fun n=>UInt8.ofNat n.toNat
theorem zlV (zs:List Int) (i:Nat) (h:i<zs.length) (hw:∀ n∈zs,0≤n∧n≤255):(dC (toB zs))[i]?=some (.int .u8 (zs.getD i 0)):=by
 have h2:=hw zs[i] (List.getElem_mem _);have e:zs.getD i 0=zs[i]:=by rw [List.getD_eq_getElem?_getD,List.getElem?_eq_getElem h];rfl
 rw [e];simp only [dC,toB,List.getElem?_map,List.getElem?_eq_getElem h,Option.map_some]
 congr 2
 rw [UInt8.toNat_ofNat'];omega
section
variable {H : Type} {enc : TypeId × Value → H} {w : World} {base : Nat} {spare : Nat → Bool} {held : Bool}
theorem zo1 {fuel:Nat} {c:Value} {x:DataW H × List MemPlace} (h:DataW.trod enc Tryz.prog w base spare held fuel 36 [c]=some x) :
  ∃ D,DAt w c D∧∀ N,(∀ k∈x.1.weights Tryz.prog 36,k≤N)→D.length≤N:=by
 rcases open_ints Tryz.underlying36 Tryz.underlying5 zxO h with ⟨hcs,rfl⟩ | ⟨a,len,cap,zs,hcs,_,hl,hm,hz,rfl,hcell,hwf⟩
 ·simp only [List.cons.injEq,and_true] at hcs
  subst hcs;exact ⟨[],⟨rfl,.inl ⟨rfl,rfl⟩⟩,fun N _=>Nat.zero_le _⟩
 ·simp only [List.cons.injEq,and_true] at hcs
  subst hcs;have hlen:len≤zs.length:=by rw [hz];split <;> omega
  have hb:∀ n∈zs,0≤n∧n≤255:=fun n hn=>bounds_u8 (hwf n hn)
  have hDl:(toB (zs.take len)).length=len:=by simp [toB];omega
  refine ⟨toB (zs.take len),⟨by rw [zeU,Nat.mul_one],.inr ⟨a,cap,by rw [hDl],by rw [hDl];exact hl,hm,fun j u hu=>?_⟩⟩,fun N hN=>?_⟩
  ·have hj:j<len:=by
    have:=(List.getElem?_eq_some_iff.1 hu).1;rw [zeU,hDl] at this;exact this
   rw [zlV _ j (by simp;omega) (fun n hn=>hb n (List.mem_of_mem_take hn))] at hu;rw [hcell j (by omega),← Option.some.inj hu,List.getD_eq_getElem?_getD,List.getD_eq_getElem?_getD,List.getElem?_take_of_lt hj]
  ·have:=hN _ (by simp only [DataW.weights,Tryz.underlying36,List.mem_cons];exact .inl rfl)
   rw [znv] at this
   simp [lits] at this
   rw [hDl];omega
theorem zxe {fuel:Nat} {c:Value} {x:DataW H × List MemPlace} (h:DataW.trod enc Tryz.prog w base spare held fuel 37 [c]=some x) :
  ∃ M,MAt w c M∧(∀ n∈M,0≤n∧n≤18446744073709551615)∧∀ N,(∀ k∈x.1.weights Tryz.prog 37,k≤N)→M.length*8≤N:=by
 rcases open_ints Tryz.underlying37 Tryz.underlying22 zbx h with ⟨hcs,rfl⟩ | ⟨a,len,cap,zs,hcs,_,hl,hm,hz,rfl,hcell,hwf⟩
 ·simp only [List.cons.injEq,and_true] at hcs
  subst hcs;exact ⟨[],⟨rfl,.inl ⟨rfl,rfl⟩⟩,fun n hn=>by (cases hn),fun N _=>Nat.zero_le _⟩
 ·simp only [List.cons.injEq,and_true] at hcs
  subst hcs;have hlen:len≤zs.length:=by rw [hz];split <;> omega
  have hb:∀ n∈zs,0≤n∧n≤18446744073709551615:=fun n hn=>bounds_u64 (hwf n hn)
  have hDl:(zs.take len).length=len:=by simp;omega
  refine ⟨zs.take len,⟨by rw [zkN,Nat.mul_one],.inr ⟨a,cap,by rw [hDl],by rw [hDl];exact hl,hm,fun j u hu=>?_⟩⟩,fun n hn=>hb n (List.mem_of_mem_take hn),fun N hN=>?_⟩
  ·have hj:j<len:=by
    have:=(List.getElem?_eq_some_iff.1 hu).1;rw [zkN,hDl] at this;exact this
   rw [hcell j (by omega),← hu];simp only [mC,List.getElem?_map,List.getElem?_take_of_lt hj,List.getElem?_eq_getElem (show j<zs.length by omega),List.getD_eq_getElem?_getD,Option.map_some,Option.getD_some]
  ·have:=hN _ (by simp only [DataW.weights,Tryz.underlying37,List.mem_cons];exact .inl rfl)
   rw [ztB] at this
   simp [lits] at this
   rw [hDl];omega
end
end Go.Proofs.YtplcfdnfeclpmaaGreatDoor
namespace Go.Proofs.YtplcfdnfeclpmaaGreatDoor.Pc
set_option maxRecDepth 100000
open Go.RowKit Go.Deep Go.Joins
open Go.WideShapes Go.ChangeShapes Go.ChangeAt
theorem zhH:Tryz.prog.cellsOf 33=9:=by kernel_rfl
theorem zk5:Tryz.prog.cellsOf 30=4:=by kernel_rfl
theorem zkH:Tryz.prog.cellsOf 31=2:=by kernel_rfl
theorem zhk:Tryz.prog.cellsOf 29=1:=by kernel_rfl
theorem zix:laidOutB Tryz.prog=true:=by kernel_rfl
theorem zbp {α:Type} (l:List α) (a k:Nat):l.drop a=(l.drop a).take k ++ l.drop (a+k):=by
 rw [← List.drop_drop,List.take_append_drop]
section
variable {H : Type} {enc : TypeId × Value → H} {w : World} {base : Nat} {spare : Nat → Bool} {held : Bool}
theorem zeH {n:Nat} {cs:List Value} {y:DataW H × List MemPlace} (h:DataW.trod enc Tryz.prog w base spare held n 29 cs=some y):∃ k:Int,cs=[.int .u32 k]∧U32 k:=by
 obtain ⟨k,e,rfl,hk⟩:=DataW.trod_int Tryz.underlying29 h;have b:=bounds_u32 hk;exact ⟨k,e,b.1,by omega⟩
theorem zl9 {n:Nat} {cs:List Value} {y:DataW H × List MemPlace} (h:DataW.trod enc Tryz.prog w base spare held n 30 cs=some y):∃ a b c d:Int,cs=[.int .u32 a,.int .u32 b,.int .u32 c,.int .u32 d]∧U32 a∧U32 b∧U32 c∧U32 d:=by
 obtain ⟨xs,m,_,_,hlen,hxs,hg⟩:=DataW.trod_array Tryz.underlying30 h;rw [zk5] at hlen
 match cs,hlen,xs,hxs with
 | [c0,c1,c2,c3],_,[y0,y1,y2,y3],_ =>
  have g0:=hg 0 (by omega);have g1:=hg 1 (by omega);have g2:=hg 2 (by omega);have g3:=hg 3 (by omega);rw [zhk] at g0 g1 g2 g3;obtain ⟨k0,e0,o0⟩:=zeH (y:=y0) (by simpa using g0);obtain ⟨k1,e1,o1⟩:=zeH (y:=y1) (by simpa using g1);obtain ⟨k2,e2,o2⟩:=zeH (y:=y2) (by simpa using g2);obtain ⟨k3,e3,o3⟩:=zeH (y:=y3) (by simpa using g3);simp only [List.cons.injEq,and_true] at e0 e1 e2 e3;exact ⟨k0,k1,k2,k3,by rw [e0,e1,e2,e3],o0,o1,o2,o3⟩
theorem zlh {n:Nat} {cs:List Value} {y:DataW H × List MemPlace} (h:DataW.trod enc Tryz.prog w base spare held n 31 cs=some y):∃ a b:Int,cs=[.int .u32 a,.int .u32 b]∧U32 a∧U32 b:=by
 obtain ⟨xs,m,_,_,hlen,hxs,hg⟩:=DataW.trod_array Tryz.underlying31 h;rw [zkH] at hlen
 match cs,hlen,xs,hxs with
 | [c0,c1],_,[y0,y1],_ =>
  have g0:=hg 0 (by omega);have g1:=hg 1 (by omega);rw [zhk] at g0 g1;obtain ⟨k0,e0,o0⟩:=zeH (y:=y0) (by simpa using g0);obtain ⟨k1,e1,o1⟩:=zeH (y:=y1) (by simpa using g1);simp only [List.cons.injEq,and_true] at e0 e1;exact ⟨k0,k1,by rw [e0,e1],o0,o1⟩
theorem zrL {n:Nat} {cs:List Value} {y:DataW H × List MemPlace} (h:DataW.trod enc Tryz.prog w base spare held n 33 cs=some y):∃ p:Pl,cs=plL p∧Ok p:=by
 obtain ⟨xs,m,_,_,hlen,hxs,hg⟩:=DataW.trod_struct Tryz.underlying33 h;rw [zhH] at hlen
 match xs,hxs with
 | [y0,y1,y2,y3],_ =>
  have g0:DataW.trod enc Tryz.prog w base spare held m 30 ((cs.drop 0).take (Tryz.prog.cellsOf 30))=some y0:=hg 0 _ rfl;have g1:DataW.trod enc Tryz.prog w base spare held m 31 ((cs.drop 4).take (Tryz.prog.cellsOf 31))=some y1:=hg 1 _ rfl;have g2:DataW.trod enc Tryz.prog w base spare held m 31 ((cs.drop 6).take (Tryz.prog.cellsOf 31))=some y2:=hg 2 _ rfl;have g3:DataW.trod enc Tryz.prog w base spare held m 29 ((cs.drop 8).take (Tryz.prog.cellsOf 29))=some y3:=hg 3 _ rfl;obtain ⟨a0,a1,a2,a3,e0,oa0,oa1,oa2,oa3⟩:=zl9 g0;obtain ⟨b0,b1,e1,ob0,ob1⟩:=zlh g1;obtain ⟨c0,c1,e2,oc0,oc1⟩:=zlh g2;obtain ⟨d0,e3,od0⟩:=zeH g3;rw [zk5] at e0;rw [zkH] at e1 e2;rw [zhk] at e3;refine ⟨⟨a0,a1,a2,a3,b0,b1,c0,c1,d0⟩,?_,⟨oa0,oa1,oa2,oa3,ob0,ob1,oc0,oc1,od0⟩⟩
  have k0:=zbp cs 0 4;have k1:=zbp cs 4 2;have k2:=zbp cs 6 2;have k3:=zbp cs 8 1;have z:cs.drop 9=[]:=List.drop_eq_nil_of_le (by omega);rw [show 8+1=9 from rfl,z,e3] at k3;rw [show 6+2=8 from rfl,k3,e2] at k2;rw [show 4+2=6 from rfl,k2,e1] at k1;rw [show 0+4=4 from rfl,k1,e0] at k0;exact k0
end
end Go.Proofs.YtplcfdnfeclpmaaGreatDoor.Pc
