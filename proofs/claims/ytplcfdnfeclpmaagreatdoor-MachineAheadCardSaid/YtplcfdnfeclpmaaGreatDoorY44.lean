/- MachineAhead,part 44. -/
import Derived.Test.YtplcfdnfeclpmaaGreatDoorY06
import Derived.Test.YtplcfdnfeclpmaaGreatDoorY23
import Derived.Test.YtplcfdnfeclpmaaGreatDoorY31
import Derived.Test.YtplcfdnfeclpmaaGreatDoorY42
import Derived.Test.YtplcfdnfeclpmaaGreatDoorY43
set_option maxHeartbeats 4000000
set_option maxRecDepth 100000
open Go.Lib (hid)
namespace Go.Proofs.YtplcfdnfeclpmaaGreatDoor.Pc
open Go.RowKit Go.Deep Go.Joins
set_option maxRecDepth 100000
def prV (h:Pl):Nat→Int
 | 0=>h.p0
 | 1=>h.p1
 | 2=>h.p2
 | _=>h.p3
def lvV (h:Pl):Nat→Int
 | 0=>h.l0
 | _=>h.l1
def enV (h:Pl):Nat→Int
 | 0=>h.e0
 | _=>h.e1
def zcH (h:Pl):Bool:=decide (h.p0≤7) && decide (h.p1≤7) && decide (h.p2≤7) && decide (h.p3≤7) && (decide (h.l0≤7) && zcf h.e0) && (decide (h.l1≤7) && zcf h.e1) && (h.p0==0 && zcf h.c)
theorem zny (h:Pl):zcH h=true ↔ (h.p0≤7∧h.p1≤7∧h.p2≤7∧h.p3≤7)∧(h.l0≤7∧zcf h.e0=true)∧(h.l1≤7∧zcf h.e1=true)∧h.p0=0∧zcf h.c=true:=by
 unfold zcH
 simp only [Bool.and_eq_true,decide_eq_true_eq,beq_iff_eq,and_assoc]
theorem zhn (h:Pl) (hn:¬ ((h.p0≤7∧h.p1≤7∧h.p2≤7∧h.p3≤7)∧(h.l0≤7∧zcf h.e0=true)∧(h.l1≤7∧zcf h.e1=true)∧h.p0=0∧zcf h.c=true)):zcH h=false:=by
 cases e:zcH h with
 | false=>rfl
 | true=>exact absurd ((zny h).1 e) hn
theorem zgd (h:Pl) (k:Nat) (hk:k<4) (hp:7<prV h k):zcH h=false:=by
 refine zhn h fun a=>?_
 match k,hk,hp with
 | 0,_,hp=>have:=a.1.1;simp only [prV] at hp;omega
 | 1,_,hp=>have:=a.1.2.1;simp only [prV] at hp;omega
 | 2,_,hp=>have:=a.1.2.2.1;simp only [prV] at hp;omega
 | 3,_,hp=>have:=a.1.2.2.2;simp only [prV] at hp;omega
theorem zgh (h:Pl) (k:Nat) (hk:k<2) (hp:7<lvV h k∨zcf (enV h k)=false):zcH h=false:=by
 refine zhn h fun a=>?_
 match k,hk,hp with
 | 0,_,hp =>
  have h1:=a.2.1.1
  have h2:=a.2.1.2
  simp only [lvV,enV] at hp
  rcases hp with hp | hp
  ·omega
  ·rw [h2] at hp;cases hp
 | 1,_,hp =>
  have h1:=a.2.2.1.1
  have h2:=a.2.2.1.2
  simp only [lvV,enV] at hp
  rcases hp with hp | hp
  ·omega
  ·rw [h2] at hp;cases hp
theorem zck (h:Pl) (W:World):TB 36 #[plV h] W (.bool (zcH h)):=by
 have m_p0:(plC h)[0]?=some (.int .u32 h.p0):=zcr h 0
 have m_e0:(plC h)[4]?=some (.int .u32 h.e0):=zcr h 4
 have m_e1:(plC h)[5]?=some (.int .u32 h.e1):=zcr h 5
 have m_c:(plC h)[8]?=some (.int .u32 h.c):=zcr h 8
 have i0:∀ w:World,(Instr.index 30 (.agg #[.int .u32 h.p0,.int .u32 h.p1,.int .u32 h.p2,.int .u32 h.p3]) (.int .i64 0)).run Tryz.prog w=.ok (.int .u32 h.p0) w:=fun _=>by kernel_rfl
 have i1:∀ w:World,(Instr.index 30 (.agg #[.int .u32 h.p0,.int .u32 h.p1,.int .u32 h.p2,.int .u32 h.p3]) (.int .i64 1)).run Tryz.prog w=.ok (.int .u32 h.p1) w:=fun _=>by kernel_rfl
 have i2:∀ w:World,(Instr.index 30 (.agg #[.int .u32 h.p0,.int .u32 h.p1,.int .u32 h.p2,.int .u32 h.p3]) (.int .i64 2)).run Tryz.prog w=.ok (.int .u32 h.p2) w:=fun _=>by kernel_rfl
 have i3:∀ w:World,(Instr.index 30 (.agg #[.int .u32 h.p0,.int .u32 h.p1,.int .u32 h.p2,.int .u32 h.p3]) (.int .i64 3)).run Tryz.prog w=.ok (.int .u32 h.p3) w:=fun _=>by kernel_rfl
 have j0:∀ w:World,(Instr.index 31 (.agg #[.int .u32 h.l0,.int .u32 h.l1]) (.int .i64 0)).run Tryz.prog w=.ok (.int .u32 h.l0) w:=fun _=>by kernel_rfl
 have j1:∀ w:World,(Instr.index 31 (.agg #[.int .u32 h.l0,.int .u32 h.l1]) (.int .i64 1)).run Tryz.prog w=.ok (.int .u32 h.l1) w:=fun _=>by kernel_rfl
 go_enter Tryz.func36,Tryz.ntmps36
 go_wp2_with (first | (with_reducible refine zaa rfl rfl (Box.load_prio (Box.new W h)) rfl ?_) | fail)
 go_loop [9] (fun i=>∃ k:Nat,k≤4∧i=.int .i64 k∧Hid (∀ j,j<k→prV h j≤7)) (fun i=>4 - (intOf i).toNat)
 case atStart=>exact ⟨0,by omega,rfl,hid fun j hj=>absurd hj (by omega)⟩
 case round =>
  obtain ⟨k,hk,rfl,HN⟩:=hrel
  match k,hk,HN with
  | 0,_,HN =>
   by_cases hp:h.p0≤7
   ·have HS:Hid (∀ j,j<1→prV h j≤7):=hid fun j hj=>by
     by_cases e:j=0
     ·subst e;exact hp
     ·exact HN.out j (by omega)
    go_wp2_with fail
    go_round
    case rel=>exact ⟨1,by omega,rfl,HS⟩
    case measure=>simp [intOf]
   ·have HE:=hid (zgd h 0 (by omega) (show 7<h.p0 by omega))
    have hp7:7<h.p0:=by omega
    go_wp2_with fail
    go_ret
    exact ⟨za1 HE.out.symm,(Below.refl _ _).alloc (Nat.le_refl _) _⟩
  | 1,_,HN =>
   by_cases hp:h.p1≤7
   ·have HS:Hid (∀ j,j<2→prV h j≤7):=hid fun j hj=>by
     by_cases e:j=1
     ·subst e;exact hp
     ·exact HN.out j (by omega)
    go_wp2_with fail
    go_round
    case rel=>exact ⟨2,by omega,rfl,HS⟩
    case measure=>simp [intOf]
   ·have HE:=hid (zgd h 1 (by omega) (show 7<h.p1 by omega))
    have hp7:7<h.p1:=by omega
    go_wp2_with fail
    go_ret
    exact ⟨za1 HE.out.symm,(Below.refl _ _).alloc (Nat.le_refl _) _⟩
  | 2,_,HN =>
   by_cases hp:h.p2≤7
   ·have HS:Hid (∀ j,j<3→prV h j≤7):=hid fun j hj=>by
     by_cases e:j=2
     ·subst e;exact hp
     ·exact HN.out j (by omega)
    go_wp2_with fail
    go_round
    case rel=>exact ⟨3,by omega,rfl,HS⟩
    case measure=>simp [intOf]
   ·have HE:=hid (zgd h 2 (by omega) (show 7<h.p2 by omega))
    have hp7:7<h.p2:=by omega
    go_wp2_with fail
    go_ret
    exact ⟨za1 HE.out.symm,(Below.refl _ _).alloc (Nat.le_refl _) _⟩
  | 3,_,HN =>
   by_cases hp:h.p3≤7
   ·have HS:Hid (∀ j,j<4→prV h j≤7):=hid fun j hj=>by
     by_cases e:j=3
     ·subst e;exact hp
     ·exact HN.out j (by omega)
    go_wp2_with fail
    go_round
    case rel=>exact ⟨4,by omega,rfl,HS⟩
    case measure=>simp [intOf]
   ·have HE:=hid (zgd h 3 (by omega) (show 7<h.p3 by omega))
    have hp7:7<h.p3:=by omega
    go_wp2_with fail
    go_ret
    exact ⟨za1 HE.out.symm,(Below.refl _ _).alloc (Nat.le_refl _) _⟩
  | 4,_,HN =>
   have HP:=hid (HN.out)
   clear HN
   go_wp2_with (first | (with_reducible refine zaa rfl rfl (Box.load_level (Box.new W h)) rfl ?_) | fail)
   go_loop [17] (fun i=>∃ m:Nat,m≤2∧i=.int .i64 m∧Hid (∀ j,j<m→lvV h j≤7∧zcf (enV h j)=true)) (fun i=>2 - (intOf i).toNat)
   case atStart=>exact ⟨0,by omega,rfl,hid fun j hj=>absurd hj (by omega)⟩
   case round =>
    obtain ⟨m,hm,rfl,HN⟩:=hrel
    match m,hm,HN with
    | 0,_,HN =>
     by_cases hp:h.l0≤7
     ·rcases Bool.eq_false_or_eq_true (zcf h.e0) with ho | ho
      ·have HS:Hid (∀ j,j<1→lvV h j≤7∧zcf (enV h j)=true):=hid fun j hj=>by
        by_cases e:j=0
        ·subst e;exact ⟨hp,ho⟩
        ·exact HN.out j (by omega)
       go_wp2_with (first | (go_at_call 60;(with_reducible refine (zen _ _).mono ?_);rintro e w' ⟨he,rfl⟩;rw [ho] at he;subst he) | fail)
       go_round
       case rel=>exact ⟨1,by omega,rfl,HS⟩
       case measure=>simp [intOf]
      ·have HE:=hid (zgh h 0 (by omega) (.inr ho))
       go_wp2_with (first | (go_at_call 60;(with_reducible refine (zen _ _).mono ?_);rintro e w' ⟨he,rfl⟩;rw [ho] at he;subst he) | fail)
       go_ret
       exact ⟨za1 HE.out.symm,(Below.refl _ _).alloc (Nat.le_refl _) _⟩
     ·have HE:=hid (zgh h 0 (by omega) (.inl (show 7<h.l0 by omega)))
      have hp7:7<h.l0:=by omega
      go_wp2_with fail
      go_ret
      exact ⟨za1 HE.out.symm,(Below.refl _ _).alloc (Nat.le_refl _) _⟩
    | 1,_,HN =>
     by_cases hp:h.l1≤7
     ·rcases Bool.eq_false_or_eq_true (zcf h.e1) with ho | ho
      ·have HS:Hid (∀ j,j<2→lvV h j≤7∧zcf (enV h j)=true):=hid fun j hj=>by
        by_cases e:j=1
        ·subst e;exact ⟨hp,ho⟩
        ·exact HN.out j (by omega)
       go_wp2_with (first | (go_at_call 60;(with_reducible refine (zen _ _).mono ?_);rintro e w' ⟨he,rfl⟩;rw [ho] at he;subst he) | fail)
       go_round
       case rel=>exact ⟨2,by omega,rfl,HS⟩
       case measure=>simp [intOf]
      ·have HE:=hid (zgh h 1 (by omega) (.inr ho))
       go_wp2_with (first | (go_at_call 60;(with_reducible refine (zen _ _).mono ?_);rintro e w' ⟨he,rfl⟩;rw [ho] at he;subst he) | fail)
       go_ret
       exact ⟨za1 HE.out.symm,(Below.refl _ _).alloc (Nat.le_refl _) _⟩
     ·have HE:=hid (zgh h 1 (by omega) (.inl (show 7<h.l1 by omega)))
      have hp7:7<h.l1:=by omega
      go_wp2_with fail
      go_ret
      exact ⟨za1 HE.out.symm,(Below.refl _ _).alloc (Nat.le_refl _) _⟩
    | 2,_,HN =>
     rcases Bool.eq_false_or_eq_true (h.p0==0) with h0 | h0
     ·have HE:Hid (zcH h=zcf h.c):=hid (by
       have a0:=HP.out 0 (by omega)
       have a1:=HP.out 1 (by omega)
       have a2:=HP.out 2 (by omega)
       have a3:=HP.out 3 (by omega)
       have b0:=HN.out 0 (by omega)
       have b1:=HN.out 1 (by omega)
       simp only [prV] at a0 a1 a2 a3
       simp only [lvV,enV] at b0 b1
       unfold zcH
       rw [h0,b0.2,b1.2,decide_eq_true a0,decide_eq_true a1,decide_eq_true a2,decide_eq_true a3,decide_eq_true b0.1,decide_eq_true b1.1]
       rfl)
      go_wp2_with (first | (go_at_call 60;(with_reducible refine (zen _ _).mono ?_);rintro e w' ⟨rfl,rfl⟩) | fail)
      go_ret
      exact ⟨za1 HE.out.symm,(Below.refl _ _).alloc (Nat.le_refl _) _⟩
     ·have HE:Hid (zcH h=false):=hid (zhn h fun a=>by rw [a.2.2.2.1] at h0;cases h0)
      go_wp2_with fail
      go_ret
      exact ⟨za1 HE.out.symm,(Below.refl _ _).alloc (Nat.le_refl _) _⟩
end Go.Proofs.YtplcfdnfeclpmaaGreatDoor.Pc
namespace Go.Proofs.YtplcfdnfeclpmaaGreatDoor
open Go.RowKit Go.Deep Go.Joins
set_option maxRecDepth 100000
def chkM (m:Mc) (p:Pt):Int:=if chkB p.D.length p.M m.E=false then 50 else if (zdz m.h && zbP m.b p.F && Pc.zcH m.b.pl)=true then 0 else 170
end Go.Proofs.YtplcfdnfeclpmaaGreatDoor
namespace Go.Proofs.YtplcfdnfeclpmaaGreatDoor.Cs
open Go.RowKit Go.Deep Go.Joins
set_option maxRecDepth 100000
theorem zqp (c:Reg) (h:zbP c=true) (W:World):TB 30 #[regV c] W (.bool (zbP c)):=by
 rw [h]
 unfold zbP at h
 simp only [Bool.and_eq_true] at h
 exact zmv c h.1.1.1.1.1.1.1.1.1.1 h.1.1.1.1.1.1.1.1.1.2 h.1.1.1.1.1.1.1.1.2 h.1.1.1.1.1.1.1.2 h.1.1.1.1.1.1.2 h.1.1.1.1.1.2 h.1.1.1.1.2 h.1.1.1.2 h.1.1.2 h.1.2 h.2 W
end Go.Proofs.YtplcfdnfeclpmaaGreatDoor.Cs
namespace Go.Proofs.YtplcfdnfeclpmaaGreatDoor
open Go.RowKit Go.Deep Go.Joins
set_option maxRecDepth 100000
theorem hr_t (h:Hart) (h0:(x0V h==0)=true) (h1:(bits .and .u64 h.pc 1==0)=true) (hm:zfu h.mode=true) (hr:Cs.zbP h.c=true) (hh:h.held=false) (ha:(h.rat==0)=true) (W:World):TB 11 #[zat h] W (.bool (zdz h)):=by
 have m_x0:=zmA h
 have m_pc:(zao h)[32]?=some (.int .u64 h.pc):=za0 h 0
 have m_held:(zao h)[50]?=some (.bool h.held):=za0 h 18
 have m_rat:(zao h)[51]?=some (.int .u64 h.rat):=za0 h 19
 have m_mode:(zao h)[33]?=some (.int .i64 h.mode):=za0 h 1
 have HE:Hid (zdz h=true):=hid (by unfold zdz;simp [h0,h1,hm,hr,hh,ha])
 go_enter Tryz.func11,Tryz.ntmps11
 go_wp2_with (first | (with_reducible show wpList _ _ _ (⟨some 20,Op.load 25 (.tmp 19),25,_,_,_⟩ :: _) _ _;refine zbl (by first | exact rfl | (simp [Region.wanted,yielded];done) | (simp [Region.wanted,yielded,Act.put];done)) rfl (Tr.Box.load_c (Tr.Box.new W h)) rfl ?_) | (go_at_call 29;(with_reducible refine (zeE h.mode _).mono ?_);rintro e w1 ⟨he,rfl⟩;rw [hm] at he;subst he) | (go_at_call 30;(with_reducible refine (Cs.zqp h.c hr _).mono ?_);rintro e w1 ⟨he,k1⟩;rw [hr] at he;subst he;have m_w1_held:w1.cell? ⟨W.heap.size,50,none⟩=some (.bool h.held):=((cell_of_row w1 W.heap.size 50 (zao h) 27 (0,0) ((Tr.Box.new W h).next k1)).trans (za0 h 18));have m_w1_rat:w1.cell? ⟨W.heap.size,51,none⟩=some (.int .u64 h.rat):=((cell_of_row w1 W.heap.size 51 (zao h) 27 (0,0) ((Tr.Box.new W h).next k1)).trans (za0 h 19))) | fail)
 all_goals go_ret
 all_goals exact ⟨za1 (HE.out.symm),zac ((Below.refl _ _).alloc (Nat.le_refl _) (Tr.zbp h)) k1⟩
theorem zov (h:Hart) (hh:zdz h=true) (hx:h.held=false) (W:World):TB 11 #[zat h] W (.bool (zdz h)):=by
 have k:=hh
 unfold zdz at k
 rw [hx,Bool.false_or] at k
 simp only [Bool.and_eq_true] at k
 exact hr_t h k.1.1.1.1 k.1.1.1.2 k.1.1.2 k.1.2 hx k.2 W
theorem ck_t (m:Mc) (p:Pt) (W:World) (K:MR W m p) (hx:m.h.held=false) (hz:p.F.length=0) (hi:m.b.inn.size≤1024) (hs:hasB m.b=true) (hc:chkB p.D.length p.M m.E=true) (hh:zdz m.h=true) (hb:zbP m.b p.F=true) (hp:Pc.zcH m.b.pl=true):TB 14 #[mcV m] W (.int .i64 (chkM m p)):=by
 have HE:=hid (show chkM m p=0 by unfold chkM;simp [hc,hh,hb,hp])
 obtain ⟨q,c,ed⟩:=zaY.is K.d
 have hv:chkV p.D.length p.M m.E=0:=by unfold chkV;rw [hc];rfl
 have C28:=hid (show Calls Tryz.prog 34 #[.agg #[m.dv,m.mv,.int .u64 m.E]] (W.alloc (mcO m)) (fun e w'=>e=.returned (.int .i64 0)∧Below (W.alloc (mcO m)).heap.size (W.alloc (mcO m)) w') from by
  rw [ed,← hv];exact zsM q p.D.length c m.mv m.E p.M _ (zaY.below K.mm (zaf W _)) (by unfold chkB at hc;rw [Bool.and_eq_true,decide_eq_true_eq] at hc;exact hc.1))
 have CB:=hid (fun w' (h:Below W.heap.size W w')=>(show Calls Tryz.prog 35 #[bdV m.b] w' (fun e W'=>e=.returned (.bool (zbP m.b p.F))∧Below w'.heap.size w' W') from zrt m.b p.F w' K.fr.len hs hi hz))
 have X:=hid (MBox.new W m)
 have B:=hid (zaf W (mcO m))
 clear K ed hv
 go_enter Tryz.func14,Tryz.ntmps14
 go_upto_region 1 with fail
 generalize W.alloc (mcO m)=wa at X B C28 ⊢
 go_wp2_with (first | (with_reducible refine zaa rfl rfl (MBox.load_ram X.out) rfl ?_) | (go_at_call 34;(with_reducible refine C28.out.mono ?_);rintro e w1 ⟨rfl,k1⟩;have X1:=hid (X.out.next k1);have B1:=hid (zac B.out k1);clear k1) | (with_reducible refine zaa rfl rfl (MBox.load_hart X1.out) rfl ?_) | (go_at_call 11;(with_reducible refine (zov m.h hh hx _).mono ?_);rintro e w2 ⟨he,k2⟩;rw [hh] at he;subst he;have X2:=hid (X1.out.next k2);have B2:=hid (zac B1.out k2);clear k2) | (with_reducible show wpList _ _ _ (⟨some 16,Op.load 35 (.tmp 15),35,_,_,_⟩ :: _) _ _;refine zbl (by first | exact rfl | (simp [Region.wanted,yielded];done) | (simp [Region.wanted,yielded,Act.put];done)) rfl (MBox.load_b X2.out) rfl ?_) | (go_at_call 35;(with_reducible refine (CB.out w2 (zac B2.out (Below.refl _ _))).mono ?_);rintro e w3 ⟨he,k3⟩;rw [hb] at he;subst he;have X3:=hid (X2.out.next k3);have B3:=hid (zac B2.out k3);clear k3) | (with_reducible show wpList _ _ _ (⟨some 23,Op.load 33 (.tmp 22),33,_,_,_⟩ :: _) _ _;refine zbl (by first | exact rfl | (simp [Region.wanted,yielded];done) | (simp [Region.wanted,yielded,Act.put];done)) rfl (MBox.load_pl X3.out) rfl ?_) | (go_at_call 36;(with_reducible refine (Pc.zck m.b.pl _).mono ?_);rintro e w4 ⟨he,k4⟩;rw [hp] at he;subst he;have B4:=hid (zac B3.out k4);clear k4) | fail)
 go_ret
 exact ⟨by rw [HE.out] <;> rfl,B4.out⟩
end Go.Proofs.YtplcfdnfeclpmaaGreatDoor
namespace Go.Proofs.YtplcfdnfeclpmaaGreatDoor
open Go.RowKit Go.Deep Go.Joins
set_option maxRecDepth 100000
theorem MS.other {w:World} {B z:Nat} {m:Mc} {p:Pt} (h:MS w B z m p) {g:Nat} (hg:g<B) (cs:Array Value):MS (w.setRow g cs) B z m p :=
 h.keep fun k hk=>setRow_other w g k cs (by have:=(h.lt hk).1;omega)
theorem zo7 (m:Mc) (p:Pt) (n:Nat) (W:World) (K:MR W m p) (V:VOk m p) (h:chkM m p=0) (CK:∀ w,Below W.heap.size W w→TB 14 #[mcV m] w (.int .i64 (chkM m p))) (hn:n≤65536) (hO:(p.O.length+n+1)*32≤140737488355328) (hL:De.Laid W):Calls Tryz.prog 13 #[mcV m,.int .i64 n] W fun e W'=>∃ x,e=.returned (.tuple #[mcV x,.int .i64 0])∧Mc1 x∧Same (rnM n m p).1 x∧MR W' x (rnM n m p).2∧Below W.heap.size W W':=by
 have C:=hid CK
 rw [h] at C
 have CC:=hid (fun w (hb:Below W.heap.size W w)=>zuP m p w (K.next hb) V.ok.fl V.ok.dl V.ok.ml (by omega))
 have HV:=hid (And.intro V (And.intro hL hO))
 clear K h V hL hO CK
 go_enter Tryz.func13,Tryz.ntmps13
 go_upto_region 1 with fail
 have b1:=zaf W (mcO m)
 have X:=hid (show MBox ((W.alloc (mcO m)).alloc (.cells Tryz.zeroCells42 42)) W.heap.size m from (MBox.new W m).next (zaf _ _))
 have G:=hid (show ((W.alloc (mcO m)).alloc (.cells Tryz.zeroCells42 42)).heap[W.heap.size+1]?=some (.cells Tryz.zeroCells42 42 (0,0)) from by have:=heap_alloc_last (W.alloc (mcO m)) (.cells Tryz.zeroCells42 42);rwa [World.size_alloc] at this)
 have B:=hid (zac b1 (zaf (W.alloc (mcO m)) (.cells Tryz.zeroCells42 42)))
 clear b1
 generalize (W.alloc (mcO m)).alloc (.cells Tryz.zeroCells42 42)=wa at X G B ⊢
 go_upto_region 2 with (first | (with_reducible refine zaa rfl rfl (MBox.load X.out) rfl ?_) | (go_at_call 14;(with_reducible refine (C.out _ B.out).mono ?_);rintro e w1 ⟨rfl,k1⟩;have X1:=hid (X.out.next k1);have B1:=hid (zac B.out k1);have G1:=hid ((k1.block _ (Array.getElem?_eq_some_iff.1 G.out).1).trans G.out);clear k1) | fail)
 clear X G B C
 have CW:=hid (CC.out w1 B1.out)
 go_upto_region 7 with (first | (with_reducible refine zaa rfl rfl (MBox.load X1.out) rfl ?_) | (go_at_call 32;(with_reducible refine CW.out.mono ?_);rintro e wd ⟨q,c,dv,mv,ov,rfl,hf,hd,hm,ho,kk⟩;obtain ⟨u,hu⟩:∃ u:Mc,u={ m with b:=m.b.at q p.F.length c,dv:=dv,mv:=mv,ov:=ov }:=⟨_,rfl⟩;rw [← hu];have ZR:=hid (show (wd.alloc (.cells Tryz.zeroCells42 42)).heap[wd.heap.size]?=some (.cells Tryz.zeroCells42 42 (0,0)) from heap_alloc_last wd _);have N1:=hid (show Mc1 u from by rw [hu];exact ⟨zc9 hd,zc9 hm,zc9 ho⟩);have Z:=hid (show Ms ((wd.alloc (.cells Tryz.zeroCells42 42)).setRow wd.heap.size (mcC u)) w1.heap.size wd.heap.size m p (From w1.heap.size)∧Below w1.heap.size w1 ((wd.alloc (.cells Tryz.zeroCells42 42)).setRow wd.heap.size (mcC u)) from by
  have b:=zaf wd (.cells Tryz.zeroCells42 42)
  have hx:MBox ((wd.alloc (.cells Tryz.zeroCells42 42)).setRow wd.heap.size (mcC u)) wd.heap.size u:=setRow_heap _ _ _ _ 42 (0,0) ZR.out
  have K:MS ((wd.alloc (.cells Tryz.zeroCells42 42)).setRow wd.heap.size (mcC u)) w1.heap.size wd.heap.size u p:=by
   refine ⟨hx,kk.size,?_,?_,?_,?_⟩
   ·rw [hu];exact (hf.keep fun g cur _ hg=>b.block g (Array.getElem?_eq_some_iff.1 hg).1).over ZR.out (by decide) _
   ·rw [hu];exact zbc (zbH hd b) ZR.out (by decide) _
   ·rw [hu];exact zbc (zbH hm b) ZR.out (by decide) _
   ·rw [hu];exact zbc (zbH ho b) ZR.out (by decide) _
  exact ⟨⟨u,by rw [hu];exact ⟨fun _ _ _ _ _ _=>rfl⟩,K,fun x hx=>(K.lt hx).1⟩,below_setRow (zac kk b) kk.size _⟩);clear hu hf hd hm ho kk) | (with_reducible refine zam rfl rfl (MBox.store u N1.out ZR.out (by kernel_rfl)) rfl rfl ?_) | fail)
 clear CW CC ZR N1 X1
 generalize wd.heap.size=z at Z ⊢
 generalize (wd.alloc (.cells Tryz.zeroCells42 42)).setRow z (mcC u)=we at Z ⊢
 have h12:∀ x,x<12→¬ From w1.heap.size x:=fun x hx h=>by have h1:w1.heap.size≤x:=h;have h2:=B1.out.size;have h3:=HV.out.2.1.1;omega
 have C33:=hid (zkk w1.heap.size z (From w1.heap.size) m p n we Z.out.1 Z.out.2.size (fun x hx=>Nat.le_trans Z.out.2.size hx) HV.out.1 (by omega) HV.out.2.2 ((HV.out.2.1.below B1.out).below Z.out.2) h12)
 rw [show (rnN n (m,p,p.O)).1=(rnM n m p).1 from rfl,show ({ (rnN n (m,p,p.O)).2.1 with O:=(rnN n (m,p,p.O)).2.2 }:Pt)=(rnM n m p).2 from rfl] at C33
 generalize hv1:(rnM n m p).1=v1 at C33
 generalize hp1:(rnM n m p).2=p1 at C33
 have HV1:=hid hv1
 have HP1:=hid hp1
 clear hv1 hp1
 clear h12
 go_upto_region 8 with (first | (go_at_call 33;(with_reducible refine C33.out.mono ?_);rintro e wf ⟨rfl,hch⟩;have CH:=hid hch;clear hch) | fail)
 obtain ⟨x,s1,s2,s3⟩:=CH.out.1
 have BF:=hid (zar.from Z.out.2 CH.out.2)
 have hlt:=(Array.getElem?_eq_some_iff.1 G1.out).1
 have G2:=hid ((BF.out.block _ hlt).trans G1.out)
 have S2:=hid s2
 have N1:=hid s2.one
 have HX:=hid (And.intro s1 (And.intro (s2.other hlt (mcC x)).rd (below_setRow (zac B1.out BF.out) (Nat.le_succ _) (mcC x))))
 clear s1 s2 s3 C33 CH Z hlt
 go_wp2_with (first | (with_reducible first | refine zaa rfl rfl (MBox.load S2.out.box) rfl ?_ | refine zam rfl rfl (MBox.store x N1.out G2.out (by kernel_rfl)) rfl rfl ?_) | fail)
 refine bodyPost_ret (v:=.tuple #[mcV x,.int .i64 0]) (zeX Tryz.results13 _ _ (W.heap.size+1) _ _ rfl (setRow_heap wf (W.heap.size+1) _ _ 42 (0,0) G2.out) rfl) rfl ⟨x,rfl,N1.out,by rw [HV1.out,HP1.out];exact HX.out⟩
theorem ztu (v:Mc) (hv:v.h=awH) (D:List UInt8) (hD:AwD D) (g:Wk):ftR v ⟨[],D,[0],[]⟩ g=(true,awH,{ g with wd:=5244179,np:=2147483652 }):=by
 have a:=zjA D [] [0] [] 2147483648 1299 hD.lo hD.slo (by decide)
 have b:=zjA D [] [0] [] 2147483650 80 hD.hi hD.shi (by decide)
 unfold ftR
 rw [hv,show awH.pc=2147483648 from rfl,a]
 simp only
 rw [if_neg (by decide),if_neg (by decide),show pcV awH 2=2147483650 by decide +kernel,b]
 simp only
 rw [if_neg (by decide),show zet 80 1299=5244179 by decide +kernel,show pcV awH 4=2147483652 by decide +kernel]
theorem ztk (v:Mc) (hv:v.h=awH) (p:Pt) (l:Int):doR v p ⟨22,10,0,0,5,5244179,2147483652,l⟩=(true,turn v (putH awH 10 5),p,⟨22,10,0,0,5,5244179,2147483652,l⟩):=by
 have e:sumV v ⟨22,10,0,0,5,5244179,2147483652,l⟩=5:=by
  unfold sumV
  rw [if_pos (show zdX 22=true by decide +kernel),Al.zrG,hv]
  exact (show Al.uV (xV awH 0+uImm 5)=5 by decide +kernel)
 unfold doR
 simp only
 rw [if_neg (by decide),if_neg (by decide),if_neg (by decide),if_neg (by decide),if_neg (by decide),if_neg (by decide),if_neg (by decide),if_neg (by decide),if_neg (by decide),if_neg (by decide),if_neg (by decide),if_neg (by decide),if_neg (by decide),if_neg (by decide),if_neg (by decide),e,hv]
theorem zuX (v:Mc) (hv:v.h=awH) (hc:v.cnt=0) (D:List UInt8) (hD:AwD D):(hsM v ⟨[],D,[0],[]⟩).1={ v with h:={ putH awH 10 5 with pc:=2147483652 },cnt:=1 }:=by
 have ht:turn v awH=v:=by rw [← hv]
 have e:spR v ⟨[],D,[0],[]⟩ (wk0 (zcC v ⟨[],D,[0],[]⟩))=(turn v { putH awH 10 5 with pc:=2147483652 },⟨[],D,[0],[]⟩,⟨22,10,0,0,5,5244179,2147483652,zcC v ⟨[],D,[0],[]⟩⟩):=by
  unfold spR
  rw [hv,zvI,if_neg (by decide),ztu v hv D hD]
  simp only
  rw [if_neg (by decide),zxZ]
  simp only
  rw [if_neg (by decide),ht]
  rw [show (wk0 (zcC v ⟨[],D,[0],[]⟩)).l=zcC v ⟨[],D,[0],[]⟩ from rfl,ztk v hv]
  rfl
 unfold hsM
 rw [e]
 show ({ turn v { putH awH 10 5 with pc:=2147483652 } with cnt:=IntKind.u64.wrap (v.cnt+1) }:Mc)=_
 rw [hc]
 rfl
theorem zh6 (n:Nat) (s:ByteArray) (h1:1≤n) (h2:n≤256) (hs:s.size≤n*256):chkB (newP n s).D.length (newP n s).M 0=true:=by
 have hl:(newP n s).D.length=n*256:=by
  show (spl (List.replicate (n*256) (0:UInt8)) 0 s).length=_
  rw [zeC _ _ _ (by rw [List.length_replicate];omega),List.length_replicate]
 unfold chkB
 rw [Bool.and_eq_true,decide_eq_true_eq,List.all_eq_true,hl,show (newP n s).M=List.replicate n 0 from rfl,List.length_replicate]
 refine ⟨⟨h1,h2,rfl⟩,fun x hx=>?_⟩
 rw [(List.mem_replicate.1 hx).2]
 decide
theorem zj5:zdz awH=true:=by decide +kernel
theorem zj8:zbP bdN []=true:=by decide +kernel
theorem zkf:Pc.zcH bdN.pl=true:=by decide +kernel
theorem zrB (n:Nat) (s:ByteArray) (dv mv:Value) (h1:1≤n) (h2:n≤256) (hs:s.size≤n*256):chkM (za3 dv mv) (newP n s)=0:=by
 have e:chkM (za3 dv mv) (newP n s)=if chkB (newP n s).D.length (newP n s).M 0=false then 50 else if (zdz awH && zbP bdN [] && Pc.zcH bdN.pl)=true then 0 else 170:=rfl
 rw [e,zh6 n s h1 h2 hs,zj5,zj8,zkf]
 rfl
end Go.Proofs.YtplcfdnfeclpmaaGreatDoor
namespace Go.Proofs.YtplcfdnfeclpmaaGreatDoor
open Go.RowKit Go.Deep Go.Joins
set_option maxRecDepth 100000
def zfe (n:Int) (s:ByteArray):Prop:=1≤n∧n≤256∧(s.size:Int)≤n*256
def zeG (n:Int) (s:ByteArray) (L:List Inp):Prop:=zfe n s∧∀ i∈L,inpB i=true
def zej (n:Int) (s:ByteArray) (L:List Inp) (W:World) (e:Ending) (W':World):Prop :=
 ∃ (m:Mc) (k:Int),e=.returned (.tuple #[mcV m,.int .i64 k])∧Mc1 m∧Below W.heap.size W W' ∧
  ((k=0∧zeG n s L∧Same (spM L newV (newP n.toNat s)).1 m∧MR W' m (spM L newV (newP n.toNat s)).2)∨(k≠0∧¬ zeG n s L∧m=mcZ))
theorem zkq (n:Int) (s:ByteArray) (L:List Inp) (v:Value) (W:World) (h:¬ zfe n s):Calls Tryz.prog 17 #[.string s,.int .i64 n,v] W (zej n s L W):=by
 obtain ⟨k,hk,C⟩:=zuZ n s (W.alloc (.cells Tryz.zeroCells42 42)) h
 have C1:=hid C
 have hb:(k != 0)=true:=by rw [bne_iff_ne];exact hk
 have HK:=hid hk
 clear C hk
 go_enter Tryz.func17,Tryz.ntmps17
 go_upto_region 1 with fail
 have G1:=hid (show (W.alloc (.cells Tryz.zeroCells42 42)).heap[W.heap.size]?=some (.cells Tryz.zeroCells42 42 (0,0)) from heap_alloc_last W _)
 have BA:=hid (zaf W (.cells Tryz.zeroCells42 42))
 generalize W.alloc (.cells Tryz.zeroCells42 42)=wa at G1 BA C1 ⊢
 have M1:=hid ze8
 go_upto_region 2 with (first | (go_at_call 31;(with_reducible refine C1.out.mono ?_);rintro e wb ⟨rfl,kk⟩;have G2:=hid ((kk.block _ (Array.getElem?_eq_some_iff.1 G1.out).1).trans G1.out);have B2:=hid (zac BA.out kk);clear kk;have ZR:=hid (show (wb.alloc (.cells Tryz.zeroCells42 42)).heap[wb.heap.size]?=some (.cells Tryz.zeroCells42 42 (0,0)) from heap_alloc_last wb _)) | (with_reducible refine zam rfl rfl (MBox.store mcZ M1.out ZR.out (by kernel_rfl)) rfl rfl ?_) | fail)
 have hlt:=(Array.getElem?_eq_some_iff.1 G2.out).1
 have G3:=hid (show ((wb.alloc (.cells Tryz.zeroCells42 42)).setRow wb.heap.size (mcC mcZ)).heap[W.heap.size]?=some (.cells Tryz.zeroCells42 42 (0,0)) from (setRow_other _ _ _ _ (by omega)).trans (((zaf wb (.cells Tryz.zeroCells42 42)).block _ hlt).trans G2.out))
 have B3:=hid (below_setRow (zac B2.out (zaf wb (.cells Tryz.zeroCells42 42))) B2.out.size (mcC mcZ))
 clear hlt ZR G2 B2 C1
 generalize (wb.alloc (.cells Tryz.zeroCells42 42)).setRow wb.heap.size (mcC mcZ)=wc at G3 B3 ⊢
 go_wp2_with (first | ((with_reducible show wpList _ _ _ (⟨some 20,Op.build 42 _,_,_,_,_⟩ :: _) _ _);refine zei (by kernel_rfl) (zgX rfl zhf) ?_;simp only [Act.put,List.setIfInBounds_toArray,List.set_cons_zero,List.set_cons_succ]) | (with_reducible refine zam rfl rfl (MBox.store mcZ M1.out G3.out (by kernel_rfl)) rfl rfl ?_) | fail)
 refine bodyPost_ret (v:=.tuple #[mcV mcZ,.int .i64 k]) (zeX Tryz.results17 _ _ W.heap.size _ _ rfl (setRow_heap wc W.heap.size _ _ 42 (0,0) G3.out) rfl) rfl ⟨mcZ,k,rfl,ze8,below_setRow B3.out (Nat.le_refl _) _,.inr ⟨HK.out,fun a=>h a.1,rfl⟩⟩
structure SpI (W1 w:World) (z:Nat) (v:Mc) (p:Pt) (L:List Inp) (j:Nat):Prop where
 ms:Ms w W1.heap.size z v p (From W1.heap.size)
 hb:Below W1.heap.size W1 w
 ok:∀ i (h:i<L.length),i<j→inpB L[i]=true
theorem zm6 (L:List Inp) (v:Mc) (p:Pt):spM (L.take 0) v p=(v,p):=rfl
theorem zmu {L:List Inp} {j:Nat} {v:Mc} {p:Pt} (K:SOk v p) (hO:p.O=[]) (h:∀ i (h:i<L.length),i<j→inpB L[i]=true) (h12:L.length≤12):(spM (L.take j) v p).2.O.length≤768:=by
 have hk:=zoy (L.take j) K fun x hx=>by
  obtain ⟨i,hi,rfl⟩:=List.getElem_of_mem hx
  rw [List.length_take] at hi
  rw [List.getElem_take]
  exact h i (by omega) (by omega)
 rw [hO,List.length_take] at hk
 simp only [List.length_nil] at hk
 omega
theorem zl8 {w1 wb:World} {dv mv:Value} {P:Pt} {L:List Inp} (hP:P=⟨[],P.D,P.M,[]⟩) (hd:OwnD wb w1.heap.size dv P.D) (hm:OwnM wb w1.heap.size mv P.M) (hb:Below w1.heap.size w1 wb):SpI w1 ((wb.alloc (.cells Tryz.zeroCells42 42)).setRow wb.heap.size (mcC (za3 dv mv))) wb.heap.size (spM (L.take 0) newV P).1 (spM (L.take 0) newV P).2 L 0:=by
 have b:=zaf wb (.cells Tryz.zeroCells42 42)
 have ZR:(wb.alloc (.cells Tryz.zeroCells42 42)).heap[wb.heap.size]?=some (.cells Tryz.zeroCells42 42 (0,0)):=heap_alloc_last wb _
 have hx:MBox ((wb.alloc (.cells Tryz.zeroCells42 42)).setRow wb.heap.size (mcC (za3 dv mv))) wb.heap.size (za3 dv mv):=setRow_heap _ _ _ _ 42 (0,0) ZR
 have K:MS ((wb.alloc (.cells Tryz.zeroCells42 42)).setRow wb.heap.size (mcC (za3 dv mv))) w1.heap.size wb.heap.size (za3 dv mv) P:=by
  rw [hP]
  exact ⟨hx,hb.size,FT.of (World.ownsRow_nil _ _ _ _),zbc (zbH hd b) ZR (by decide) _,zbc (zbH hm b) ZR (by decide) _,World.ownsRow_nil _ _ _ _⟩
 rw [zm6]
 exact ⟨⟨za3 dv mv,zxj dv mv,K,fun x hx=>(K.lt hx).1⟩,below_setRow (zac hb b) hb.size _,fun i _ hi=>absurd hi (Nat.not_lt_zero i)⟩
theorem zoA {L:List Inp} {j:Nat} (hlt:j<L.length) (h:∀ i (h:i<L.length),i<j→inpB L[i]=true) (hb:inpB L[j]=true):∀ i (h:i<L.length),i<j+1→inpB L[i]=true:=fun i hi hij=>by
 by_cases e:i<j
 ·exact h i hi e
 ·obtain rfl:i=j:=by omega
  exact hb
theorem zt3 {n:Int} {s:ByteArray} {L:List Inp} {j:Nat} (hlt:j<L.length) (hb:inpB L[j]=false):¬ zeG n s L:=fun k=>by
 have:=k.2 L[j] (List.getElem_mem ..)
 rw [hb] at this
 cases this
theorem zsw {n:Nat} {s:ByteArray} {L:List Inp} {P:Pt} {W wr:World} {z B:Nat} {m:Mc} (hP:newP n s=P) (hB:zfe n s) (hok:∀ i (h:i<L.length),i<L.length→inpB L[i]=true) (s1:Same (spM L newV P).1 m) (s2:MS wr B z m (spM L newV P).2) (hlt:W.heap.size<B) (hb:Below W.heap.size W wr):zej n s L W (.returned (.tuple #[mcV m,.int .i64 0])) (wr.setRow W.heap.size (mcC m)):=by
 subst hP
 unfold zej
 rw [Int.toNat_natCast]
 exact ⟨m,0,rfl,s2.one,below_setRow hb (Nat.le_refl _) _,.inl ⟨rfl,⟨hB,fun i hi=>by
  obtain ⟨k,hk,rfl⟩:=List.getElem_of_mem hi
  exact hok k hk hk⟩,s1,(s2.other hlt (mcC m)).rd⟩⟩
theorem zkX {n:Nat} {s:ByteArray} {L:List Inp} {W w:World} {cs:Array Value} (hno:¬ zeG n s L) (hb:Below W.heap.size W w):zej n s L W (.returned (.tuple #[mcV mcZ,.int .i64 1])) (w.setRow W.heap.size cs):=⟨mcZ,1,rfl,ze8,below_setRow hb (Nat.le_refl _) _,.inr ⟨by decide,hno,rfl⟩⟩
theorem zri (n:Nat) (s:ByteArray) (L:List Inp) (q:Option Addr) (c:Nat) (W:World) (h1:1≤n) (h2:n≤256) (hs:s.size≤n*256) (hL:InAt W (.slice q L.length c) L) (h12:L.length≤12) (hz:∀ i∈L,i.s.size≤maxLen) (hD:De.Laid W):Calls Tryz.prog 17 #[.string s,.int .i64 n,.slice q L.length c] W (zej n s L W):=by
 have HB:=hid (show zfe n s from ⟨by omega,by omega,by omega⟩)
 have KS:=hid (zi2 n s h2 hs)
 have HIN:=hid (fun w (hb:Below W.heap.size W w)=>hL.next hb)
 have HZ:=hid (And.intro hz (And.intro hD h12))
 have C31:=hid (zit n s (W.alloc (.cells Tryz.zeroCells42 42)) h1 h2 hs)
 have hP:spl (List.replicate (n*256) 0) 0 s=(newP n s).D∧List.replicate n (0:Int)=(newP n s).M∧newP n s=⟨[],(newP n s).D,(newP n s).M,[]⟩:=⟨rfl,rfl,rfl⟩
 rw [hP.1,hP.2.1] at C31
 have HP:=hid hP.2.2
 clear hL hD h12 hz hP hs
 generalize hPP:newP n s=P at KS C31 HP
 have PP:=hid hPP
 clear hPP
 go_enter Tryz.func17,Tryz.ntmps17
 go_upto_region 1 with fail
 have G1:=hid (show (W.alloc (.cells Tryz.zeroCells42 42)).heap[W.heap.size]?=some (.cells Tryz.zeroCells42 42 (0,0)) from heap_alloc_last W _)
 have BA:=hid (zaf W (.cells Tryz.zeroCells42 42))
 have H1:=hid (show (W.alloc (.cells Tryz.zeroCells42 42)).heap.size=W.heap.size+1 from World.size_alloc ..)
 generalize W.alloc (.cells Tryz.zeroCells42 42)=w1 at G1 BA C31 H1 ⊢
 go_upto_region 2 with (first | (go_at_call 31;(with_reducible refine C31.out.mono ?_);rintro e wb ⟨dv,mv,rfl,hd,hm,kk⟩;have ZR:=hid (show (wb.alloc (.cells Tryz.zeroCells42 42)).heap[wb.heap.size]?=some (.cells Tryz.zeroCells42 42 (0,0)) from heap_alloc_last wb _);have M1:=hid (show Mc1 (za3 dv mv) from ⟨zc9 hd,zc9 hm,rfl⟩);have PD:=hid hd;have PM:=hid hm;have BB:=hid kk;clear hd hm kk) | (with_reducible refine zam rfl rfl (MBox.store (za3 dv mv) M1.out ZR.out (by kernel_rfl)) rfl rfl ?_) | fail)
 have Q0:=hid (zl8 (L:=L) HP.out PD.out PM.out BB.out)
 clear C31 PD PM M1 ZR BB
 generalize wb.heap.size=z at Q0 ⊢
 generalize (wb.alloc (.cells Tryz.zeroCells42 42)).setRow z (mcC (za3 dv mv))=w3 at Q0 ⊢
 go_wp2_with fail
 go_loopw [24] (fun i wr=>∃ j:Nat,j≤L.length∧i=.int .i64 j∧Hid (SpI w1 wr z (spM (L.take j) newV P).1 (spM (L.take j) newV P).2 L j)) (fun i _=>L.length - (intOf i).toNat)
 case atStart=>exact ⟨0,Nat.zero_le _,rfl,Q0⟩
 case round =>
  obtain ⟨j,hj,rfl,QQ⟩:=hrel
  have hbW:=zac BA.out QQ.out.hb
  by_cases hlt:j<L.length
  ·have g1:decide ((j:Int)<L.length)=true:=decide_eq_true (by omega)
   obtain ⟨g,off,rfl,hld⟩:=(HIN.out wr hbW).elem hlt
   have LD:=hid hld
   have hzj:=HZ.out.1 L[j] (List.getElem_mem ..)
   have hsucc:=zrK L j hlt newV P
   -- ROUND
   have GI:=hid (show (wr.alloc (.cells #[.int .u64 0,.int .i64 0,.int .i64 0,.string ⟨#[]⟩] 63)).heap[wr.heap.size]?=some (.cells #[.int .u64 0,.int .i64 0,.int .i64 0,.string ⟨#[]⟩] 63 (0,0)) from heap_alloc_last wr _)
   have HS:=hid hsucc
   have C38:=hid (fun w=>zpv L[j] hzj w)
   have OKJ:=hid (zoA hlt QQ.out.ok)
   have NOJ:=hid (zt3 (n:=n) (s:=s) hlt)
   have KO:=hid (zoN (L.take j) KS.out)
   have LO:=hid (zmu KS.out (by rw [HP.out]) QQ.out.ok HZ.out.2.2)
   clear hld hzj hsucc
   generalize L[j]=li at LD GI HS C38 OKJ NOJ
   go_upto_region 7 with (first | (with_reducible first | refine zaa rfl rfl LD.out rfl ?_ | refine zam rfl rfl (ztr li GI.out (by kernel_rfl)) rfl rfl ?_) | fail)
   have GX:=hid (show ((wr.alloc (.cells #[.int .u64 0,.int .i64 0,.int .i64 0,.string ⟨#[]⟩] 63)).setRow wr.heap.size (inpC li)).heap[wr.heap.size]?=some (.cells (inpC li) 63 (0,0)) from setRow_heap _ _ _ _ 63 (0,0) GI.out)
   have bx:Below wr.heap.size wr ((wr.alloc (.cells #[.int .u64 0,.int .i64 0,.int .i64 0,.string ⟨#[]⟩] 63)).setRow wr.heap.size (inpC li)):=below_setRow (zaf wr _) (Nat.le_refl _) _
   have KX:=hid (And.intro (QQ.out.ms.next bx) (zac QQ.out.hb bx))
   clear GI bx QQ LD
   generalize wr.heap.size=x at GX KX ⊢
   generalize (wr.alloc (.cells #[.int .u64 0,.int .i64 0,.int .i64 0,.string ⟨#[]⟩] 63)).setRow x (inpC li)=wy at GX KX ⊢
   cases hib:inpB li with
   | false =>
    rw [hib] at C38
    have NO:=hid (NOJ.out hib)
    clear OKJ NOJ HS KO LO
    have M1:=hid ze8
    go_upto_region 8 with (first | (with_reducible refine zaa rfl rfl (zgE GX.out) rfl ?_) | (go_at_call 38;(with_reducible refine (C38.out _).mono ?_);rintro e wz ⟨rfl,kk⟩;have BZ:=hid (zac KX.out.2 kk);clear kk) | fail)
    have G6:=hid ((BZ.out.block W.heap.size (by have:=H1.out;omega)).trans G1.out)
    go_wp2_with (first | ((with_reducible show wpList _ _ _ (⟨some 31,Op.build 42 _,_,_,_,_⟩ :: _) _ _);refine zei (by kernel_rfl) (zgX rfl zhf) ?_;simp only [Act.put,List.setIfInBounds_toArray,List.set_cons_zero,List.set_cons_succ]) | (with_reducible refine zam rfl rfl (MBox.store mcZ M1.out G6.out (by kernel_rfl)) rfl rfl ?_) | fail)
    refine bodyPost_ret (v:=.tuple #[mcV mcZ,.int .i64 1]) (zeX Tryz.results17 _ _ W.heap.size _ _ rfl (setRow_heap wz W.heap.size _ _ 42 (0,0) G6.out) rfl) rfl (zkX NO.out (zac BA.out BZ.out))
   | true =>
    rw [hib] at C38
    have OK:=hid (OKJ.out hib)
    obtain ⟨gp1,gp2⟩:=zjG hib
    have GP:=hid (And.intro gp1 gp2)
    clear OKJ NOJ gp1 gp2
    go_upto_region 9 with (first | (with_reducible refine zaa rfl rfl (zgE GX.out) rfl ?_) | (go_at_call 38;(with_reducible refine (C38.out _).mono ?_);rintro e wz ⟨rfl,kk⟩;have GZ:=hid ((kk.block _ (Array.getElem?_eq_some_iff.1 GX.out).1).trans GX.out);have KZ:=hid (And.intro (KX.out.1.next kk) (zac KX.out.2 kk));clear kk) | fail)
    clear GX KX C38
    have hin:=(zg3 KO.out li.gap.toNat).inn
    have h12:∀ y,y<12→¬ From w1.heap.size y:=fun y hy h=>by
     have h1:w1.heap.size≤y:=h
     have h2:=HZ.out.2.1.1
     have h3:=H1.out
     omega
    have C39:=hid (zpY w1.heap.size z (From w1.heap.size) (spM (L.take j) newV P).1 (spM (L.take j) newV P).2 li li.gap.toNat wz KZ.out.1 KZ.out.2.size (fun y hy=>Nat.le_trans KZ.out.2.size hy) KO.out.ok (by have:=GP.out;omega) (by have:=GP.out;omega) (by have:=LO.out;have:=GP.out;omega) ((HZ.out.2.1.below BA.out).below KZ.out.2) h12 hin)
    rw [← HS.out] at C39
    clear hin h12 HS KO LO
    go_upto_region 10 with (first | (with_reducible refine zaa rfl rfl (zgE GZ.out) rfl ?_) | (go_at_call 39;(with_reducible refine C39.out.mono ?_);rintro e wv ⟨rfl,hch⟩;have Q2:=hid (show SpI w1 wv z (spM (L.take (j+1)) newV P).1 (spM (L.take (j+1)) newV P).2 L (j+1) from ⟨hch.1,zar.from KZ.out.2 hch.2,OK.out⟩);clear hch) | fail)
    clear C39 GZ KZ OK GP
    have hj12:=HZ.out.2.2
    go_wp2_with fail
    exact ⟨⟨j+1,by omega,by go_num,Q2⟩,by simp [intOf];omega⟩
  ·have hjl:j=L.length:=by omega
   subst hjl
   have g1:decide ((L.length:Int)<L.length)=false:=decide_eq_false (by omega)
   obtain ⟨m,s1,s2,s3⟩:=QQ.out.ms
   rw [List.take_length] at s1 s2
   have hlt6:W.heap.size<w1.heap.size:=by have:=H1.out;omega
   have G6:=hid ((QQ.out.hb.block W.heap.size hlt6).trans G1.out)
   have SB:=hid s2.box
   have N1:=hid s2.one
   have FIN:=hid (zsw PP.out HB.out QQ.out.ok s1 s2 hlt6 hbW)
   clear s1 s2 s3 QQ Q0 hlt hlt6 hbW
   go_wp2_with (first | (with_reducible first | refine zaa rfl rfl (MBox.load SB.out) rfl ?_ | refine zam rfl rfl (MBox.store m N1.out G6.out (by kernel_rfl)) rfl rfl ?_) | fail)
   exact bodyPost_ret (v:=.tuple #[mcV m,.int .i64 0]) (zeX Tryz.results17 _ _ W.heap.size _ _ rfl (setRow_heap wr W.heap.size _ _ 42 (0,0) G6.out) rfl) rfl FIN.out
theorem zkb (n:Int) (s:ByteArray) (L:List Inp) (q:Option Addr) (c:Nat) (W:World) (hL:InAt W (.slice q L.length c) L) (h12:L.length≤12) (hz:∀ i∈L,i.s.size≤maxLen) (hD:De.Laid W):Calls Tryz.prog 17 #[.string s,.int .i64 n,.slice q L.length c] W (zej n s L W):=by
 by_cases h:zfe n s
 ·obtain ⟨k,rfl⟩:∃ k:Nat,n=(k:Int):=⟨n.toNat,by have:=h.1;omega⟩
  obtain ⟨h1,h2,h3⟩:=h
  exact zri k s L q c W (by omega) (by omega) (by omega) hL h12 hz hD
 ·exact zkq n s L _ W h
end Go.Proofs.YtplcfdnfeclpmaaGreatDoor
