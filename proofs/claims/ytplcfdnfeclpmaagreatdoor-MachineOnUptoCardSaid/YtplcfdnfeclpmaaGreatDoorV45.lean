/- MachineOn, part 45. -/
import Derived.Test.YtplcfdnfeclpmaaGreatDoorV06
import Derived.Test.YtplcfdnfeclpmaaGreatDoorV23
import Derived.Test.YtplcfdnfeclpmaaGreatDoorV26
import Derived.Test.YtplcfdnfeclpmaaGreatDoorV32
import Derived.Test.YtplcfdnfeclpmaaGreatDoorV37
set_option maxHeartbeats 4000000
set_option maxRecDepth 100000
open Go.Lib (hid)
open Go Go.RowKit Go.Deep Go.Joins Go.Proofs.Tryz
namespace Go.Proofs.YtplcfdnfeclpmaaGreatDoor
def zdc (m:Int):Bool:=m==0 || m==1 || m==3
theorem zcY (m:Int) (W:World):TW 29 #[.int .i64 m] W (.bool (zdc m)):=by
 by_cases h0:m=0
 ·subst h0
  go_enter func29,ntmps29
  go_wp2
  go_ret;exact ⟨rfl,rfl⟩
 by_cases h1:m=1
 ·subst h1
  go_enter func29,ntmps29
  go_wp2
  go_ret;exact ⟨rfl,rfl⟩
 by_cases h3:m=3
 ·subst h3
  go_enter func29,ntmps29
  go_wp2
  go_ret;exact ⟨rfl,rfl⟩
 have g0:(m==0)=false:=by rw [beq_eq_false_iff_ne];exact h0
 have g1:(m==1)=false:=by rw [beq_eq_false_iff_ne];exact h1
 have g3:(m==3)=false:=by rw [beq_eq_false_iff_ne];exact h3
 have HE:=hid (show zdc m=false by unfold zdc;rw [g0,g1,g3];rfl);go_enter func29,ntmps29
 go_wp2
 go_ret;exact ⟨zaT HE.out.symm,rfl⟩
def x0V (h:Hart):Int:=h.x.headD 0
theorem zej (h:Hart):(zai h)[0]?=some (.int .u64 (x0V h)):=by
 rw [zho h 0 (by omega)];unfold xL x0V;have:=h.hx;cases hh:h.x with
 | nil=>rw [hh] at this;cases this
 | cons a l=>rfl
def za4 (h:Hart):Bool:=(x0V h==0) && (bits .and .u64 h.pc 1==0) && zdc h.mode && Cs.zao h.c && (h.held || h.rat==0)
theorem hr_a (h:Hart) (h0:(x0V h==0)=false) (W:World):TB 11 #[zat h] W (.bool (za4 h)):=by
 have m_x0:=zej h;have m_pc:(zai h)[32]?=some (.int .u64 h.pc):=zas h 0;have m_held:(zai h)[50]?=some (.bool h.held):=zas h 18;have m_rat:(zai h)[51]?=some (.int .u64 h.rat):=zas h 19;have m_mode:(zai h)[33]?=some (.int .i64 h.mode):=zas h 1;have HE:Hid (za4 h=false):=hid (by unfold za4;simp [h0]);go_enter func11,ntmps11;go_wp2_with (first | (with_reducible show wpList _ _ _ (⟨some 20,Op.load 25 (.tmp 19),25,_,_,_⟩ :: _) _ _;refine zaU (by first | exact rfl | (simp [Region.wanted,yielded];done) | (simp [Region.wanted,yielded,Act.put];done)) rfl (Tr.Box.load_c (Tr.Box.new W h)) rfl ?_) | (go_at_call 29;(with_reducible refine (zcY h.mode _).mono ?_);rintro e w1 ⟨he,rfl⟩;rw [hm] at he;subst he) | (go_at_call 30;(with_reducible refine (Cs.zbe h.c _).mono ?_);rintro e w1 ⟨he,k1⟩;rw [hr] at he;subst he;have m_w1_held:w1.cell? ⟨W.heap.size,50,none⟩=some (.bool h.held):=((cell_of_row w1 W.heap.size 50 (zai h) 27 (0,0) ((Tr.Box.new W h).next k1)).trans (zas h 18));have m_w1_rat:w1.cell? ⟨W.heap.size,51,none⟩=some (.int .u64 h.rat):=((cell_of_row w1 W.heap.size 51 (zai h) 27 (0,0) ((Tr.Box.new W h).next k1)).trans (zas h 19))))
 all_goals go_ret
 all_goals exact ⟨zaT (HE.out.symm),(Below.refl _ _).alloc (Nat.le_refl _) (Tr.zbf h)⟩
theorem hr_b (h:Hart) (h0:(x0V h==0)=true) (h1:(bits .and .u64 h.pc 1==0)=false) (W:World):TB 11 #[zat h] W (.bool (za4 h)):=by
 have m_x0:=zej h;have m_pc:(zai h)[32]?=some (.int .u64 h.pc):=zas h 0;have m_held:(zai h)[50]?=some (.bool h.held):=zas h 18;have m_rat:(zai h)[51]?=some (.int .u64 h.rat):=zas h 19;have m_mode:(zai h)[33]?=some (.int .i64 h.mode):=zas h 1;have HE:Hid (za4 h=false):=hid (by unfold za4;simp [h0,h1]);go_enter func11,ntmps11;go_wp2_with (first | (with_reducible show wpList _ _ _ (⟨some 20,Op.load 25 (.tmp 19),25,_,_,_⟩ :: _) _ _;refine zaU (by first | exact rfl | (simp [Region.wanted,yielded];done) | (simp [Region.wanted,yielded,Act.put];done)) rfl (Tr.Box.load_c (Tr.Box.new W h)) rfl ?_) | (go_at_call 29;(with_reducible refine (zcY h.mode _).mono ?_);rintro e w1 ⟨he,rfl⟩;rw [hm] at he;subst he) | (go_at_call 30;(with_reducible refine (Cs.zbe h.c _).mono ?_);rintro e w1 ⟨he,k1⟩;rw [hr] at he;subst he;have m_w1_held:w1.cell? ⟨W.heap.size,50,none⟩=some (.bool h.held):=((cell_of_row w1 W.heap.size 50 (zai h) 27 (0,0) ((Tr.Box.new W h).next k1)).trans (zas h 18));have m_w1_rat:w1.cell? ⟨W.heap.size,51,none⟩=some (.int .u64 h.rat):=((cell_of_row w1 W.heap.size 51 (zai h) 27 (0,0) ((Tr.Box.new W h).next k1)).trans (zas h 19))))
 all_goals go_ret
 all_goals exact ⟨zaT (HE.out.symm),(Below.refl _ _).alloc (Nat.le_refl _) (Tr.zbf h)⟩
theorem hr_c (h:Hart) (h0:(x0V h==0)=true) (h1:(bits .and .u64 h.pc 1==0)=true) (hm:zdc h.mode=false) (W:World):TB 11 #[zat h] W (.bool (za4 h)):=by
 have m_x0:=zej h;have m_pc:(zai h)[32]?=some (.int .u64 h.pc):=zas h 0;have m_held:(zai h)[50]?=some (.bool h.held):=zas h 18;have m_rat:(zai h)[51]?=some (.int .u64 h.rat):=zas h 19;have m_mode:(zai h)[33]?=some (.int .i64 h.mode):=zas h 1;have HE:Hid (za4 h=false):=hid (by unfold za4;simp [h0,h1,hm]);go_enter func11,ntmps11;go_wp2_with (first | (with_reducible show wpList _ _ _ (⟨some 20,Op.load 25 (.tmp 19),25,_,_,_⟩ :: _) _ _;refine zaU (by first | exact rfl | (simp [Region.wanted,yielded];done) | (simp [Region.wanted,yielded,Act.put];done)) rfl (Tr.Box.load_c (Tr.Box.new W h)) rfl ?_) | (go_at_call 29;(with_reducible refine (zcY h.mode _).mono ?_);rintro e w1 ⟨he,rfl⟩;rw [hm] at he;subst he) | (go_at_call 30;(with_reducible refine (Cs.zbe h.c _).mono ?_);rintro e w1 ⟨he,k1⟩;rw [hr] at he;subst he;have m_w1_held:w1.cell? ⟨W.heap.size,50,none⟩=some (.bool h.held):=((cell_of_row w1 W.heap.size 50 (zai h) 27 (0,0) ((Tr.Box.new W h).next k1)).trans (zas h 18));have m_w1_rat:w1.cell? ⟨W.heap.size,51,none⟩=some (.int .u64 h.rat):=((cell_of_row w1 W.heap.size 51 (zai h) 27 (0,0) ((Tr.Box.new W h).next k1)).trans (zas h 19))))
 all_goals go_ret
 all_goals exact ⟨zaT (HE.out.symm),(Below.refl _ _).alloc (Nat.le_refl _) (Tr.zbf h)⟩
theorem hr_d (h:Hart) (h0:(x0V h==0)=true) (h1:(bits .and .u64 h.pc 1==0)=true) (hm:zdc h.mode=true) (hr:Cs.zao h.c=false) (W:World):TB 11 #[zat h] W (.bool (za4 h)):=by
 have m_x0:=zej h;have m_pc:(zai h)[32]?=some (.int .u64 h.pc):=zas h 0;have m_held:(zai h)[50]?=some (.bool h.held):=zas h 18;have m_rat:(zai h)[51]?=some (.int .u64 h.rat):=zas h 19;have m_mode:(zai h)[33]?=some (.int .i64 h.mode):=zas h 1;have HE:Hid (za4 h=false):=hid (by unfold za4;simp [h0,h1,hm,hr]);go_enter func11,ntmps11;go_wp2_with (first | (with_reducible show wpList _ _ _ (⟨some 20,Op.load 25 (.tmp 19),25,_,_,_⟩ :: _) _ _;refine zaU (by first | exact rfl | (simp [Region.wanted,yielded];done) | (simp [Region.wanted,yielded,Act.put];done)) rfl (Tr.Box.load_c (Tr.Box.new W h)) rfl ?_) | (go_at_call 29;(with_reducible refine (zcY h.mode _).mono ?_);rintro e w1 ⟨he,rfl⟩;rw [hm] at he;subst he) | (go_at_call 30;(with_reducible refine (Cs.zbe h.c _).mono ?_);rintro e w1 ⟨he,k1⟩;rw [hr] at he;subst he;have m_w1_held:w1.cell? ⟨W.heap.size,50,none⟩=some (.bool h.held):=((cell_of_row w1 W.heap.size 50 (zai h) 27 (0,0) ((Tr.Box.new W h).next k1)).trans (zas h 18));have m_w1_rat:w1.cell? ⟨W.heap.size,51,none⟩=some (.int .u64 h.rat):=((cell_of_row w1 W.heap.size 51 (zai h) 27 (0,0) ((Tr.Box.new W h).next k1)).trans (zas h 19))))
 all_goals go_ret
 all_goals exact ⟨zaT (HE.out.symm),zac ((Below.refl _ _).alloc (Nat.le_refl _) (Tr.zbf h)) k1⟩
theorem hr_e (h:Hart) (h0:(x0V h==0)=true) (h1:(bits .and .u64 h.pc 1==0)=true) (hm:zdc h.mode=true) (hr:Cs.zao h.c=true) (hh:h.held=true) (W:World):TB 11 #[zat h] W (.bool (za4 h)):=by
 have m_x0:=zej h;have m_pc:(zai h)[32]?=some (.int .u64 h.pc):=zas h 0;have m_held:(zai h)[50]?=some (.bool h.held):=zas h 18;have m_rat:(zai h)[51]?=some (.int .u64 h.rat):=zas h 19;have m_mode:(zai h)[33]?=some (.int .i64 h.mode):=zas h 1;have HE:Hid (za4 h=true):=hid (by unfold za4;simp [h0,h1,hm,hr,hh]);go_enter func11,ntmps11;go_wp2_with (first | (with_reducible show wpList _ _ _ (⟨some 20,Op.load 25 (.tmp 19),25,_,_,_⟩ :: _) _ _;refine zaU (by first | exact rfl | (simp [Region.wanted,yielded];done) | (simp [Region.wanted,yielded,Act.put];done)) rfl (Tr.Box.load_c (Tr.Box.new W h)) rfl ?_) | (go_at_call 29;(with_reducible refine (zcY h.mode _).mono ?_);rintro e w1 ⟨he,rfl⟩;rw [hm] at he;subst he) | (go_at_call 30;(with_reducible refine (Cs.zbe h.c _).mono ?_);rintro e w1 ⟨he,k1⟩;rw [hr] at he;subst he;have m_w1_held:w1.cell? ⟨W.heap.size,50,none⟩=some (.bool h.held):=((cell_of_row w1 W.heap.size 50 (zai h) 27 (0,0) ((Tr.Box.new W h).next k1)).trans (zas h 18));have m_w1_rat:w1.cell? ⟨W.heap.size,51,none⟩=some (.int .u64 h.rat):=((cell_of_row w1 W.heap.size 51 (zai h) 27 (0,0) ((Tr.Box.new W h).next k1)).trans (zas h 19))))
 all_goals go_ret
 all_goals exact ⟨zaT (HE.out.symm),zac ((Below.refl _ _).alloc (Nat.le_refl _) (Tr.zbf h)) k1⟩
theorem hr_f (h:Hart) (h0:(x0V h==0)=true) (h1:(bits .and .u64 h.pc 1==0)=true) (hm:zdc h.mode=true) (hr:Cs.zao h.c=true) (hh:h.held=false) (ha:(h.rat==0)=true) (W:World):TB 11 #[zat h] W (.bool (za4 h)):=by
 have m_x0:=zej h;have m_pc:(zai h)[32]?=some (.int .u64 h.pc):=zas h 0;have m_held:(zai h)[50]?=some (.bool h.held):=zas h 18;have m_rat:(zai h)[51]?=some (.int .u64 h.rat):=zas h 19;have m_mode:(zai h)[33]?=some (.int .i64 h.mode):=zas h 1;have HE:Hid (za4 h=true):=hid (by unfold za4;simp [h0,h1,hm,hr,hh,ha]);go_enter func11,ntmps11;go_wp2_with (first | (with_reducible show wpList _ _ _ (⟨some 20,Op.load 25 (.tmp 19),25,_,_,_⟩ :: _) _ _;refine zaU (by first | exact rfl | (simp [Region.wanted,yielded];done) | (simp [Region.wanted,yielded,Act.put];done)) rfl (Tr.Box.load_c (Tr.Box.new W h)) rfl ?_) | (go_at_call 29;(with_reducible refine (zcY h.mode _).mono ?_);rintro e w1 ⟨he,rfl⟩;rw [hm] at he;subst he) | (go_at_call 30;(with_reducible refine (Cs.zbe h.c _).mono ?_);rintro e w1 ⟨he,k1⟩;rw [hr] at he;subst he;have m_w1_held:w1.cell? ⟨W.heap.size,50,none⟩=some (.bool h.held):=((cell_of_row w1 W.heap.size 50 (zai h) 27 (0,0) ((Tr.Box.new W h).next k1)).trans (zas h 18));have m_w1_rat:w1.cell? ⟨W.heap.size,51,none⟩=some (.int .u64 h.rat):=((cell_of_row w1 W.heap.size 51 (zai h) 27 (0,0) ((Tr.Box.new W h).next k1)).trans (zas h 19))))
 all_goals go_ret
 all_goals exact ⟨zaT (HE.out.symm),zac ((Below.refl _ _).alloc (Nat.le_refl _) (Tr.zbf h)) k1⟩
theorem hr_g (h:Hart) (h0:(x0V h==0)=true) (h1:(bits .and .u64 h.pc 1==0)=true) (hm:zdc h.mode=true) (hr:Cs.zao h.c=true) (hh:h.held=false) (ha:(h.rat==0)=false) (W:World):TB 11 #[zat h] W (.bool (za4 h)):=by
 have m_x0:=zej h;have m_pc:(zai h)[32]?=some (.int .u64 h.pc):=zas h 0;have m_held:(zai h)[50]?=some (.bool h.held):=zas h 18;have m_rat:(zai h)[51]?=some (.int .u64 h.rat):=zas h 19;have m_mode:(zai h)[33]?=some (.int .i64 h.mode):=zas h 1;have HE:Hid (za4 h=false):=hid (by unfold za4;simp [h0,h1,hm,hr,hh,ha]);go_enter func11,ntmps11;go_wp2_with (first | (with_reducible show wpList _ _ _ (⟨some 20,Op.load 25 (.tmp 19),25,_,_,_⟩ :: _) _ _;refine zaU (by first | exact rfl | (simp [Region.wanted,yielded];done) | (simp [Region.wanted,yielded,Act.put];done)) rfl (Tr.Box.load_c (Tr.Box.new W h)) rfl ?_) | (go_at_call 29;(with_reducible refine (zcY h.mode _).mono ?_);rintro e w1 ⟨he,rfl⟩;rw [hm] at he;subst he) | (go_at_call 30;(with_reducible refine (Cs.zbe h.c _).mono ?_);rintro e w1 ⟨he,k1⟩;rw [hr] at he;subst he;have m_w1_held:w1.cell? ⟨W.heap.size,50,none⟩=some (.bool h.held):=((cell_of_row w1 W.heap.size 50 (zai h) 27 (0,0) ((Tr.Box.new W h).next k1)).trans (zas h 18));have m_w1_rat:w1.cell? ⟨W.heap.size,51,none⟩=some (.int .u64 h.rat):=((cell_of_row w1 W.heap.size 51 (zai h) 27 (0,0) ((Tr.Box.new W h).next k1)).trans (zas h 19))))
 all_goals go_ret
 all_goals exact ⟨zaT (HE.out.symm),zac ((Below.refl _ _).alloc (Nat.le_refl _) (Tr.zbf h)) k1⟩
theorem zgZ (h:Hart) (W:World):TB 11 #[zat h] W (.bool (za4 h)):=by
 cases h0:(x0V h==0) with
 | false=>exact hr_a h h0 W
 | true =>
 cases h1:(bits .and .u64 h.pc 1==0) with
 | false=>exact hr_b h h0 h1 W
 | true =>
 cases hm:zdc h.mode with
 | false=>exact hr_c h h0 h1 hm W
 | true =>
 cases hr:Cs.zao h.c with
 | false=>exact hr_d h h0 h1 hm hr W
 | true =>
 cases hh:h.held with
 | true=>exact hr_e h h0 h1 hm hr hh W
 | false =>
 cases ha:(h.rat==0) with
 | true=>exact hr_f h h0 h1 hm hr hh ha W
 | false=>exact hr_g h h0 h1 hm hr hh ha W
end Go.Proofs.YtplcfdnfeclpmaaGreatDoor
namespace Go.Proofs.YtplcfdnfeclpmaaGreatDoor
def chkB (n:Nat) (M:List Int) (E:Int):Bool:=decide (1≤M.length∧M.length≤256∧n=M.length*256) && M.all fun m=>decide (m≤E)
def chkV (n:Nat) (M:List Int) (E:Int):Int:=if chkB n M E then 0 else 50
theorem ztw {n:Nat} {M:List Int} {E:Int} (h:¬ (1≤M.length∧M.length≤256∧n=M.length*256)):chkV n M E=50:=by
 unfold chkV chkB;simp only [h,decide_false,Bool.false_and,Bool.false_eq_true,if_false]
theorem zAK {n:Nat} {M:List Int} {E:Int} (j:Nat) (hj:j<M.length) (h:E<M[j]):chkV n M E=50:=by
 have:(M.all fun m=>decide (m≤E))=false:=by
  rw [List.all_eq_false];exact ⟨M[j],List.getElem_mem _,by simp;omega⟩
 unfold chkV chkB;rw [this];simp
theorem zAz {n:Nat} {M:List Int} {E:Int} (h:1≤M.length∧M.length≤256∧n=M.length*256) (h2:∀ j (hj:j<M.length),M[j]≤E):chkV n M E=0:=by
 have:(M.all fun m=>decide (m≤E))=true:=by
  rw [List.all_eq_true];intro m hm;obtain ⟨j,hj,rfl⟩:=List.getElem_of_mem hm;exact decide_eq_true (h2 j hj)
 unfold chkV chkB;rw [this];simp [h]
theorem zrm (p:Option Addr) (n cap:Nat) (q:Option Addr) (cap2:Nat) (E:Int) (M:List Int) (w:World) (hM:M.length≤9223372036854775807) (h:¬ (1≤M.length∧M.length≤256∧n=M.length*256)) :
  TB 34 #[.agg #[.slice p n cap,.slice q M.length cap2,.int .u64 E]] w (.int .i64 50):=by
 by_cases h1:M.length<1
 ·go_enter func34,ntmps34
  go_wp2
  go_ret;exact ⟨rfl,zag w _⟩
 by_cases h2:256<M.length
 ·go_enter func34,ntmps34
  go_wp2
  go_ret;exact ⟨rfl,zag w _⟩
 ·have h3:((n:Int) != (M.length:Int)*256)=true:=by rw [bne_iff_ne];omega
  clear h;go_enter func34,ntmps34
  go_wp2
  go_ret;exact ⟨rfl,zag w _⟩
theorem zi8 (p:Option Addr) (n cap:Nat) (mv:Value) (E:Int) (M:List Int) (w:World) (hm:MAt w mv M) (h:1≤M.length∧M.length≤256∧n=M.length*256) :
  TB 34 #[.agg #[.slice p n cap,mv,.int .u64 E]] w (.int .i64 (chkV n M E)):=by
 obtain ⟨b,off,cap2,rfl,_,_,hb,hc⟩:=hm.cell (by omega);have hc1:=hc;have h1:¬ (M.length<1):=by omega
 have h2:¬ (256<M.length):=by omega
 have h3:((n:Int) != (M.length:Int)*256)=false:=by rw [bne_eq_false_iff_eq];omega
 have HH:=hid h;have HC:=hid hc;clear h hc hc1 hm;go_enter func34,ntmps34;go_wp2_with fail
 go_loop [26] (fun i=>∃ j:Nat,j≤M.length∧i=.int .i64 j∧Hid (∀ k (hk:k<M.length),k<j→M[k]≤E)) (fun i=>M.length - (intOf i).toNat)
 case atStart=>exact ⟨0,Nat.zero_le _,rfl,hid (fun k _ hk=>absurd hk (Nat.not_lt_zero _))⟩
 case round =>
  obtain ⟨j,hj,rfl,hall⟩:=hrel
  by_cases hlt:j<M.length
  ·have hc1:=(zag w (.cells #[.slice p n cap,.slice (some ⟨b,off,none⟩) M.length cap2,.int .u64 E] 39)).cell (p:=⟨b,off+j,none⟩) hb
   rw [HC.out j hlt] at hc1;have c1:=hc1;clear hc1;have HN:=hid (fun h=>zAK (n:=n) (M:=M) (E:=E) j hlt h)
   have HS:=hid (show M[j]≤E→∀ k (hk:k<M.length),k<j+1→M[k]≤E from fun h k hk hkj=>by
    by_cases e:k<j
    ·exact hall.out k hk e
    ·obtain rfl:k=j:=by omega
     exact h)
   generalize M[j]=X at *
   by_cases hx:E<X
   ·go_wp2_with fail
    go_ret;exact ⟨zam (HN.out hx).symm,zag w _⟩
   ·go_wp2_with fail
    go_round
    case rel=>exact ⟨j+1,by omega,by go_num,hid (HS.out (by omega))⟩
    case measure=>simp [intOf];omega
  ·go_wp2_with fail
   go_ret;exact ⟨zam (zAz HH.out (fun k hk=>hall.out k hk (by omega))).symm,zag w _⟩
theorem zfM (p:Option Addr) (n cap:Nat) (mv:Value) (E:Int) (M:List Int) (w:World) (hm:MAt w mv M) :
  TB 34 #[.agg #[.slice p n cap,mv,.int .u64 E]] w (.int .i64 (chkV n M E)):=by
 by_cases h:1≤M.length∧M.length≤256∧n=M.length*256
 ·exact zi8 p n cap mv E M w hm h
 ·obtain ⟨q,cap2,rfl⟩:=hm.is
  rw [ztw h];exact zrm p n cap q cap2 E M w hm.le h
end Go.Proofs.YtplcfdnfeclpmaaGreatDoor
namespace Go.Proofs.YtplcfdnfeclpmaaGreatDoor.Pc
theorem zct (x:Int) (W:World):TW 60 #[.int .u32 x] W (.bool (zbo x)):=by
 go_enter func60,ntmps60
 go_wp2
 go_ret;exact ⟨rfl,rfl⟩
end Go.Proofs.YtplcfdnfeclpmaaGreatDoor.Pc
namespace Go.Proofs.YtplcfdnfeclpmaaGreatDoor.Pc
def prV (h:Pl):Nat→Int
 | 0=>h.p0
 | 1=>h.p1
 | 2=>h.p2
 | _=>h.p3
def lvV (h:Pl):Nat→Int
 | 0=>h.l0
 | _=>h.l1
def enV (h:Pl):Nat→Int
 | 0=>h.e0
 | _=>h.e1
def zbh (h:Pl):Bool:=decide (h.p0≤7) && decide (h.p1≤7) && decide (h.p2≤7) && decide (h.p3≤7) && (decide (h.l0≤7) && zbo h.e0) && (decide (h.l1≤7) && zbo h.e1) && (h.p0==0 && zbo h.c)
theorem zfL (h:Pl):zbh h=true ↔ (h.p0≤7∧h.p1≤7∧h.p2≤7∧h.p3≤7)∧(h.l0≤7∧zbo h.e0=true)∧(h.l1≤7∧zbo h.e1=true)∧h.p0=0∧zbo h.c=true:=by
 unfold zbh;simp only [Bool.and_eq_true,decide_eq_true_eq,beq_iff_eq,and_assoc]
theorem zh9 (h:Pl) (hn:¬ ((h.p0≤7∧h.p1≤7∧h.p2≤7∧h.p3≤7)∧(h.l0≤7∧zbo h.e0=true)∧(h.l1≤7∧zbo h.e1=true)∧h.p0=0∧zbo h.c=true)):zbh h=false:=by
 cases e:zbh h with
 | false=>rfl
 | true=>exact absurd ((zfL h).1 e) hn
theorem zgm (h:Pl) (k:Nat) (hk:k<4) (hp:7<prV h k):zbh h=false:=by
 refine zh9 h fun a=>?_
 match k,hk,hp with
 | 0,_,hp=>have:=a.1.1;simp only [prV] at hp;omega
 | 1,_,hp=>have:=a.1.2.1;simp only [prV] at hp;omega
 | 2,_,hp=>have:=a.1.2.2.1;simp only [prV] at hp;omega
 | 3,_,hp=>have:=a.1.2.2.2;simp only [prV] at hp;omega
theorem zg5 (h:Pl) (k:Nat) (hk:k<2) (hp:7<lvV h k∨zbo (enV h k)=false):zbh h=false:=by
 refine zh9 h fun a=>?_
 match k,hk,hp with
 | 0,_,hp =>
  have h1:=a.2.1.1;have h2:=a.2.1.2;simp only [lvV,enV] at hp;rcases hp with hp | hp
  ·omega
  ·rw [h2] at hp;cases hp
 | 1,_,hp =>
  have h1:=a.2.2.1.1;have h2:=a.2.2.1.2;simp only [lvV,enV] at hp;rcases hp with hp | hp
  ·omega
  ·rw [h2] at hp;cases hp
theorem zbe (h:Pl) (W:World):TB 36 #[plV h] W (.bool (zbh h)):=by
 have m_p0:(plC h)[0]?=some (.int .u32 h.p0):=zcI h 0;have m_e0:(plC h)[4]?=some (.int .u32 h.e0):=zcI h 4;have m_e1:(plC h)[5]?=some (.int .u32 h.e1):=zcI h 5;have m_c:(plC h)[8]?=some (.int .u32 h.c):=zcI h 8;have i0:∀ w:World,(Instr.index 30 (.agg #[.int .u32 h.p0,.int .u32 h.p1,.int .u32 h.p2,.int .u32 h.p3]) (.int .i64 0)).run Tryz.prog w=.ok (.int .u32 h.p0) w:=fun _=>by kernel_rfl
 have i1:∀ w:World,(Instr.index 30 (.agg #[.int .u32 h.p0,.int .u32 h.p1,.int .u32 h.p2,.int .u32 h.p3]) (.int .i64 1)).run Tryz.prog w=.ok (.int .u32 h.p1) w:=fun _=>by kernel_rfl
 have i2:∀ w:World,(Instr.index 30 (.agg #[.int .u32 h.p0,.int .u32 h.p1,.int .u32 h.p2,.int .u32 h.p3]) (.int .i64 2)).run Tryz.prog w=.ok (.int .u32 h.p2) w:=fun _=>by kernel_rfl
 have i3:∀ w:World,(Instr.index 30 (.agg #[.int .u32 h.p0,.int .u32 h.p1,.int .u32 h.p2,.int .u32 h.p3]) (.int .i64 3)).run Tryz.prog w=.ok (.int .u32 h.p3) w:=fun _=>by kernel_rfl
 have j0:∀ w:World,(Instr.index 31 (.agg #[.int .u32 h.l0,.int .u32 h.l1]) (.int .i64 0)).run Tryz.prog w=.ok (.int .u32 h.l0) w:=fun _=>by kernel_rfl
 have j1:∀ w:World,(Instr.index 31 (.agg #[.int .u32 h.l0,.int .u32 h.l1]) (.int .i64 1)).run Tryz.prog w=.ok (.int .u32 h.l1) w:=fun _=>by kernel_rfl
 go_enter func36,ntmps36;go_wp2_with (with_reducible refine zaa rfl rfl (Box.load_prio (Box.new W h)) rfl ?_)
 go_loop [9] (fun i=>∃ k:Nat,k≤4∧i=.int .i64 k∧Hid (∀ j,j<k→prV h j≤7)) (fun i=>4 - (intOf i).toNat)
 case atStart=>exact ⟨0,by omega,rfl,hid fun j hj=>absurd hj (by omega)⟩
 case round =>
  obtain ⟨k,hk,rfl,HN⟩:=hrel
  match k,hk,HN with
  | 0,_,HN =>
   by_cases hp:h.p0≤7
   ·have HS:Hid (∀ j,j<1→prV h j≤7):=hid fun j hj=>by
     by_cases e:j=0
     ·subst e;exact hp
     ·exact HN.out j (by omega)
    go_wp2_with fail
    go_round
    case rel=>exact ⟨1,by omega,rfl,HS⟩
    case measure=>simp [intOf]
   ·have HE:=hid (zgm h 0 (by omega) (show 7<h.p0 by omega))
    have hp7:7<h.p0:=by omega
    go_wp2_with fail;go_ret;exact ⟨zaT HE.out.symm,(Below.refl _ _).alloc (Nat.le_refl _) _⟩
  | 1,_,HN =>
   by_cases hp:h.p1≤7
   ·have HS:Hid (∀ j,j<2→prV h j≤7):=hid fun j hj=>by
     by_cases e:j=1
     ·subst e;exact hp
     ·exact HN.out j (by omega)
    go_wp2_with fail
    go_round
    case rel=>exact ⟨2,by omega,rfl,HS⟩
    case measure=>simp [intOf]
   ·have HE:=hid (zgm h 1 (by omega) (show 7<h.p1 by omega))
    have hp7:7<h.p1:=by omega
    go_wp2_with fail;go_ret;exact ⟨zaT HE.out.symm,(Below.refl _ _).alloc (Nat.le_refl _) _⟩
  | 2,_,HN =>
   by_cases hp:h.p2≤7
   ·have HS:Hid (∀ j,j<3→prV h j≤7):=hid fun j hj=>by
     by_cases e:j=2
     ·subst e;exact hp
     ·exact HN.out j (by omega)
    go_wp2_with fail
    go_round
    case rel=>exact ⟨3,by omega,rfl,HS⟩
    case measure=>simp [intOf]
   ·have HE:=hid (zgm h 2 (by omega) (show 7<h.p2 by omega))
    have hp7:7<h.p2:=by omega
    go_wp2_with fail;go_ret;exact ⟨zaT HE.out.symm,(Below.refl _ _).alloc (Nat.le_refl _) _⟩
  | 3,_,HN =>
   by_cases hp:h.p3≤7
   ·have HS:Hid (∀ j,j<4→prV h j≤7):=hid fun j hj=>by
     by_cases e:j=3
     ·subst e;exact hp
     ·exact HN.out j (by omega)
    go_wp2_with fail
    go_round
    case rel=>exact ⟨4,by omega,rfl,HS⟩
    case measure=>simp [intOf]
   ·have HE:=hid (zgm h 3 (by omega) (show 7<h.p3 by omega))
    have hp7:7<h.p3:=by omega
    go_wp2_with fail;go_ret;exact ⟨zaT HE.out.symm,(Below.refl _ _).alloc (Nat.le_refl _) _⟩
  | 4,_,HN =>
   have HP:=hid (HN.out);clear HN;go_wp2_with (with_reducible refine zaa rfl rfl (Box.load_level (Box.new W h)) rfl ?_)
   go_loop [17] (fun i=>∃ m:Nat,m≤2∧i=.int .i64 m∧Hid (∀ j,j<m→lvV h j≤7∧zbo (enV h j)=true)) (fun i=>2 - (intOf i).toNat)
   case atStart=>exact ⟨0,by omega,rfl,hid fun j hj=>absurd hj (by omega)⟩
   case round =>
    obtain ⟨m,hm,rfl,HN⟩:=hrel
    match m,hm,HN with
    | 0,_,HN =>
     by_cases hp:h.l0≤7
     ·rcases Bool.eq_false_or_eq_true (zbo h.e0) with ho | ho
      ·have HS:Hid (∀ j,j<1→lvV h j≤7∧zbo (enV h j)=true):=hid fun j hj=>by
        by_cases e:j=0
        ·subst e;exact ⟨hp,ho⟩
        ·exact HN.out j (by omega)
       go_wp2_with (go_at_call 60;(with_reducible refine (zct _ _).mono ?_);rintro e w' ⟨he,rfl⟩;rw [ho] at he;subst he)
       go_round
       case rel=>exact ⟨1,by omega,rfl,HS⟩
       case measure=>simp [intOf]
      ·have HE:=hid (zg5 h 0 (by omega) (.inr ho))
       go_wp2_with (go_at_call 60;(with_reducible refine (zct _ _).mono ?_);rintro e w' ⟨he,rfl⟩;rw [ho] at he;subst he);go_ret;exact ⟨zaT HE.out.symm,(Below.refl _ _).alloc (Nat.le_refl _) _⟩
     ·have HE:=hid (zg5 h 0 (by omega) (.inl (show 7<h.l0 by omega)))
      have hp7:7<h.l0:=by omega
      go_wp2_with fail;go_ret;exact ⟨zaT HE.out.symm,(Below.refl _ _).alloc (Nat.le_refl _) _⟩
    | 1,_,HN =>
     by_cases hp:h.l1≤7
     ·rcases Bool.eq_false_or_eq_true (zbo h.e1) with ho | ho
      ·have HS:Hid (∀ j,j<2→lvV h j≤7∧zbo (enV h j)=true):=hid fun j hj=>by
        by_cases e:j=1
        ·subst e;exact ⟨hp,ho⟩
        ·exact HN.out j (by omega)
       go_wp2_with (go_at_call 60;(with_reducible refine (zct _ _).mono ?_);rintro e w' ⟨he,rfl⟩;rw [ho] at he;subst he)
       go_round
       case rel=>exact ⟨2,by omega,rfl,HS⟩
       case measure=>simp [intOf]
      ·have HE:=hid (zg5 h 1 (by omega) (.inr ho))
       go_wp2_with (go_at_call 60;(with_reducible refine (zct _ _).mono ?_);rintro e w' ⟨he,rfl⟩;rw [ho] at he;subst he);go_ret;exact ⟨zaT HE.out.symm,(Below.refl _ _).alloc (Nat.le_refl _) _⟩
     ·have HE:=hid (zg5 h 1 (by omega) (.inl (show 7<h.l1 by omega)))
      have hp7:7<h.l1:=by omega
      go_wp2_with fail;go_ret;exact ⟨zaT HE.out.symm,(Below.refl _ _).alloc (Nat.le_refl _) _⟩
    | 2,_,HN =>
     rcases Bool.eq_false_or_eq_true (h.p0==0) with h0 | h0
     ·have HE:Hid (zbh h=zbo h.c):=hid (by
       have a0:=HP.out 0 (by omega);have a1:=HP.out 1 (by omega);have a2:=HP.out 2 (by omega);have a3:=HP.out 3 (by omega);have b0:=HN.out 0 (by omega);have b1:=HN.out 1 (by omega);simp only [prV] at a0 a1 a2 a3;simp only [lvV,enV] at b0 b1;unfold zbh;rw [h0,b0.2,b1.2,decide_eq_true a0,decide_eq_true a1,decide_eq_true a2,decide_eq_true a3,decide_eq_true b0.1,decide_eq_true b1.1];rfl)
      go_wp2_with (go_at_call 60;with_reducible refine (zct _ _).tq ?_);go_ret;exact ⟨zaT HE.out.symm,(Below.refl _ _).alloc (Nat.le_refl _) _⟩
     ·have HE:Hid (zbh h=false):=hid (zh9 h fun a=>by rw [a.2.2.2.1] at h0;cases h0)
      go_wp2_with fail;go_ret;exact ⟨zaT HE.out.symm,(Below.refl _ _).alloc (Nat.le_refl _) _⟩
end Go.Proofs.YtplcfdnfeclpmaaGreatDoor.Pc
namespace Go.Proofs.YtplcfdnfeclpmaaGreatDoor
def chkM (m:Mc) (p:Pt):Int:=if chkB p.D.length p.M m.E=false then 50 else if (za4 m.h && zao m.b p.F && Pc.zbh m.b.pl)=true then 0 else 170
theorem ck_a (m:Mc) (p:Pt) (W:World) (K:MR W m p) (hc:chkB p.D.length p.M m.E=false):TB 14 #[mcV m] W (.int .i64 (chkM m p)):=by
 have HE:=hid (show chkM m p=50 by unfold chkM;simp [hc]);obtain ⟨q,c,ed⟩:=zaW.is K.d;have hv:chkV p.D.length p.M m.E=50:=by unfold chkV;rw [hc];rfl
 have C28:=hid (show Calls Tryz.prog 34 #[.agg #[m.dv,m.mv,.int .u64 m.E]] (W.alloc (mcO m)) (fun e w'=>e=.returned (.int .i64 50)∧Below (W.alloc (mcO m)).heap.size (W.alloc (mcO m)) w') from by
  rw [ed,← hv];exact zfM q p.D.length c m.mv m.E p.M _ (zaW.below K.mm (zag W _)))
 have CB:=hid (fun w' (h:Below W.heap.size W w')=>zbe m.b p.F w' (K.next h).fr);have X:=hid (MBox.new W m);have B:=hid (zag W (mcO m));clear K ed hv;go_enter func14,ntmps14;go_upto_region 1 with fail;generalize W.alloc (mcO m)=wa at X B C28 ⊢;go_wp2_with (first | (with_reducible refine zaa rfl rfl (MBox.load_ram X.out) rfl ?_) | (go_at_call 34;(with_reducible refine C28.out.mono ?_);rintro e w1 ⟨rfl,k1⟩;have X1:=hid (X.out.next k1);have B1:=hid (zac B.out k1);clear k1));go_ret;exact ⟨by rw [HE.out] <;> rfl,B1.out⟩
theorem ck_b (m:Mc) (p:Pt) (W:World) (K:MR W m p) (hc:chkB p.D.length p.M m.E=true) (hh:za4 m.h=false):TB 14 #[mcV m] W (.int .i64 (chkM m p)):=by
 have HE:=hid (show chkM m p=170 by unfold chkM;simp [hc,hh]);obtain ⟨q,c,ed⟩:=zaW.is K.d;have hv:chkV p.D.length p.M m.E=0:=by unfold chkV;rw [hc];rfl
 have C28:=hid (show Calls Tryz.prog 34 #[.agg #[m.dv,m.mv,.int .u64 m.E]] (W.alloc (mcO m)) (fun e w'=>e=.returned (.int .i64 0)∧Below (W.alloc (mcO m)).heap.size (W.alloc (mcO m)) w') from by
  rw [ed,← hv];exact zfM q p.D.length c m.mv m.E p.M _ (zaW.below K.mm (zag W _)))
 have CB:=hid (fun w' (h:Below W.heap.size W w')=>zbe m.b p.F w' (K.next h).fr);have X:=hid (MBox.new W m);have B:=hid (zag W (mcO m));clear K ed hv;go_enter func14,ntmps14;go_upto_region 1 with fail;generalize W.alloc (mcO m)=wa at X B C28 ⊢;go_wp2_with (first | (with_reducible refine zaa rfl rfl (MBox.load_ram X.out) rfl ?_) | (go_at_call 34;(with_reducible refine C28.out.mono ?_);rintro e w1 ⟨rfl,k1⟩;have X1:=hid (X.out.next k1);have B1:=hid (zac B.out k1);clear k1) | (with_reducible refine zaa rfl rfl (MBox.load_hart X1.out) rfl ?_) | (go_at_call 11;(with_reducible refine (zgZ m.h _).mono ?_);rintro e w2 ⟨he,k2⟩;rw [hh] at he;subst he;have X2:=hid (X1.out.next k2);have B2:=hid (zac B1.out k2);clear k2));go_ret;exact ⟨by rw [HE.out] <;> rfl,B2.out⟩
theorem ck_c (m:Mc) (p:Pt) (W:World) (K:MR W m p) (hc:chkB p.D.length p.M m.E=true) (hh:za4 m.h=true) (hb:zao m.b p.F=false):TB 14 #[mcV m] W (.int .i64 (chkM m p)):=by
 have HE:=hid (show chkM m p=170 by unfold chkM;simp [hc,hh,hb]);obtain ⟨q,c,ed⟩:=zaW.is K.d;have hv:chkV p.D.length p.M m.E=0:=by unfold chkV;rw [hc];rfl
 have C28:=hid (show Calls Tryz.prog 34 #[.agg #[m.dv,m.mv,.int .u64 m.E]] (W.alloc (mcO m)) (fun e w'=>e=.returned (.int .i64 0)∧Below (W.alloc (mcO m)).heap.size (W.alloc (mcO m)) w') from by
  rw [ed,← hv];exact zfM q p.D.length c m.mv m.E p.M _ (zaW.below K.mm (zag W _)))
 have CB:=hid (fun w' (h:Below W.heap.size W w')=>zbe m.b p.F w' (K.next h).fr);have X:=hid (MBox.new W m);have B:=hid (zag W (mcO m));clear K ed hv;go_enter func14,ntmps14;go_upto_region 1 with fail;generalize W.alloc (mcO m)=wa at X B C28 ⊢;go_wp2_with (first | (with_reducible refine zaa rfl rfl (MBox.load_ram X.out) rfl ?_) | (go_at_call 34;(with_reducible refine C28.out.mono ?_);rintro e w1 ⟨rfl,k1⟩;have X1:=hid (X.out.next k1);have B1:=hid (zac B.out k1);clear k1) | (with_reducible refine zaa rfl rfl (MBox.load_hart X1.out) rfl ?_) | (go_at_call 11;(with_reducible refine (zgZ m.h _).mono ?_);rintro e w2 ⟨he,k2⟩;rw [hh] at he;subst he;have X2:=hid (X1.out.next k2);have B2:=hid (zac B1.out k2);clear k2) | (with_reducible show wpList _ _ _ (⟨some 16,Op.load 35 (.tmp 15),35,_,_,_⟩ :: _) _ _;refine zaU (by first | exact rfl | (simp [Region.wanted,yielded];done) | (simp [Region.wanted,yielded,Act.put];done)) rfl (MBox.load_b X2.out) rfl ?_) | (go_at_call 35;(with_reducible refine (CB.out w2 (zac B2.out (Below.refl _ _))).mono ?_);rintro e w3 ⟨he,k3⟩;rw [hb] at he;subst he;have X3:=hid (X2.out.next k3);have B3:=hid (zac B2.out k3);clear k3));go_ret;exact ⟨by rw [HE.out] <;> rfl,B3.out⟩
theorem ck_d (m:Mc) (p:Pt) (W:World) (K:MR W m p) (hc:chkB p.D.length p.M m.E=true) (hh:za4 m.h=true) (hb:zao m.b p.F=true) (hp:Pc.zbh m.b.pl=false):TB 14 #[mcV m] W (.int .i64 (chkM m p)):=by
 have HE:=hid (show chkM m p=170 by unfold chkM;simp [hc,hh,hb,hp]);obtain ⟨q,c,ed⟩:=zaW.is K.d;have hv:chkV p.D.length p.M m.E=0:=by unfold chkV;rw [hc];rfl
 have C28:=hid (show Calls Tryz.prog 34 #[.agg #[m.dv,m.mv,.int .u64 m.E]] (W.alloc (mcO m)) (fun e w'=>e=.returned (.int .i64 0)∧Below (W.alloc (mcO m)).heap.size (W.alloc (mcO m)) w') from by
  rw [ed,← hv];exact zfM q p.D.length c m.mv m.E p.M _ (zaW.below K.mm (zag W _)))
 have CB:=hid (fun w' (h:Below W.heap.size W w')=>zbe m.b p.F w' (K.next h).fr);have X:=hid (MBox.new W m);have B:=hid (zag W (mcO m));clear K ed hv;go_enter func14,ntmps14;go_upto_region 1 with fail;generalize W.alloc (mcO m)=wa at X B C28 ⊢
 go_wp2_with (first | (with_reducible refine zaa rfl rfl (MBox.load_ram X.out) rfl ?_) | (go_at_call 34;(with_reducible refine C28.out.mono ?_);rintro e w1 ⟨rfl,k1⟩;have X1:=hid (X.out.next k1);have B1:=hid (zac B.out k1);clear k1) | (with_reducible refine zaa rfl rfl (MBox.load_hart X1.out) rfl ?_) | (go_at_call 11;(with_reducible refine (zgZ m.h _).mono ?_);rintro e w2 ⟨he,k2⟩;rw [hh] at he;subst he;have X2:=hid (X1.out.next k2);have B2:=hid (zac B1.out k2);clear k2) | (with_reducible show wpList _ _ _ (⟨some 16,Op.load 35 (.tmp 15),35,_,_,_⟩ :: _) _ _;refine zaU (by first | exact rfl | (simp [Region.wanted,yielded];done) | (simp [Region.wanted,yielded,Act.put];done)) rfl (MBox.load_b X2.out) rfl ?_) | (go_at_call 35;(with_reducible refine (CB.out w2 (zac B2.out (Below.refl _ _))).mono ?_);rintro e w3 ⟨he,k3⟩;rw [hb] at he;subst he;have X3:=hid (X2.out.next k3);have B3:=hid (zac B2.out k3);clear k3) | (with_reducible show wpList _ _ _ (⟨some 23,Op.load 33 (.tmp 22),33,_,_,_⟩ :: _) _ _;refine zaU (by first | exact rfl | (simp [Region.wanted,yielded];done) | (simp [Region.wanted,yielded,Act.put];done)) rfl (MBox.load_pl X3.out) rfl ?_) | (go_at_call 36;(with_reducible refine (Pc.zbe m.b.pl _).mono ?_);rintro e w4 ⟨he,k4⟩;rw [hp] at he;subst he;have B4:=hid (zac B3.out k4);clear k4));go_ret;exact ⟨by rw [HE.out] <;> rfl,B4.out⟩
theorem ck_e (m:Mc) (p:Pt) (W:World) (K:MR W m p) (hc:chkB p.D.length p.M m.E=true) (hh:za4 m.h=true) (hb:zao m.b p.F=true) (hp:Pc.zbh m.b.pl=true):TB 14 #[mcV m] W (.int .i64 (chkM m p)):=by
 have HE:=hid (show chkM m p=0 by unfold chkM;simp [hc,hh,hb,hp]);obtain ⟨q,c,ed⟩:=zaW.is K.d;have hv:chkV p.D.length p.M m.E=0:=by unfold chkV;rw [hc];rfl
 have C28:=hid (show Calls Tryz.prog 34 #[.agg #[m.dv,m.mv,.int .u64 m.E]] (W.alloc (mcO m)) (fun e w'=>e=.returned (.int .i64 0)∧Below (W.alloc (mcO m)).heap.size (W.alloc (mcO m)) w') from by
  rw [ed,← hv];exact zfM q p.D.length c m.mv m.E p.M _ (zaW.below K.mm (zag W _)))
 have CB:=hid (fun w' (h:Below W.heap.size W w')=>zbe m.b p.F w' (K.next h).fr);have X:=hid (MBox.new W m);have B:=hid (zag W (mcO m));clear K ed hv;go_enter func14,ntmps14;go_upto_region 1 with fail;generalize W.alloc (mcO m)=wa at X B C28 ⊢
 go_wp2_with (first | (with_reducible refine zaa rfl rfl (MBox.load_ram X.out) rfl ?_) | (go_at_call 34;(with_reducible refine C28.out.mono ?_);rintro e w1 ⟨rfl,k1⟩;have X1:=hid (X.out.next k1);have B1:=hid (zac B.out k1);clear k1) | (with_reducible refine zaa rfl rfl (MBox.load_hart X1.out) rfl ?_) | (go_at_call 11;(with_reducible refine (zgZ m.h _).mono ?_);rintro e w2 ⟨he,k2⟩;rw [hh] at he;subst he;have X2:=hid (X1.out.next k2);have B2:=hid (zac B1.out k2);clear k2) | (with_reducible show wpList _ _ _ (⟨some 16,Op.load 35 (.tmp 15),35,_,_,_⟩ :: _) _ _;refine zaU (by first | exact rfl | (simp [Region.wanted,yielded];done) | (simp [Region.wanted,yielded,Act.put];done)) rfl (MBox.load_b X2.out) rfl ?_) | (go_at_call 35;(with_reducible refine (CB.out w2 (zac B2.out (Below.refl _ _))).mono ?_);rintro e w3 ⟨he,k3⟩;rw [hb] at he;subst he;have X3:=hid (X2.out.next k3);have B3:=hid (zac B2.out k3);clear k3) | (with_reducible show wpList _ _ _ (⟨some 23,Op.load 33 (.tmp 22),33,_,_,_⟩ :: _) _ _;refine zaU (by first | exact rfl | (simp [Region.wanted,yielded];done) | (simp [Region.wanted,yielded,Act.put];done)) rfl (MBox.load_pl X3.out) rfl ?_) | (go_at_call 36;(with_reducible refine (Pc.zbe m.b.pl _).mono ?_);rintro e w4 ⟨he,k4⟩;rw [hp] at he;subst he;have B4:=hid (zac B3.out k4);clear k4));go_ret;exact ⟨by rw [HE.out] <;> rfl,B4.out⟩
theorem zi7 (m:Mc) (p:Pt) (W:World) (K:MR W m p):TB 14 #[mcV m] W (.int .i64 (chkM m p)):=by
 cases hc:chkB p.D.length p.M m.E with
 | false=>exact ck_a m p W K hc
 | true =>
 cases hh:za4 m.h with
 | false=>exact ck_b m p W K hc hh
 | true =>
 cases hb:zao m.b p.F with
 | false=>exact ck_c m p W K hc hh hb
 | true =>
 cases hp:Pc.zbh m.b.pl with
 | false=>exact ck_d m p W K hc hh hb hp
 | true=>exact ck_e m p W K hc hh hb hp
end Go.Proofs.YtplcfdnfeclpmaaGreatDoor
