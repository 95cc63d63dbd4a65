/- HartQuiet,part 5. -/
import Derived.Test.YtmjjpgaeboaamaaGreatDoorY01
import Derived.Test.YtmjjpgaeboaamaaGreatDoorY02
import Derived.Test.YtmjjpgaeboaamaaGreatDoorY04
set_option maxHeartbeats 4000000
set_option maxRecDepth 100000
open Go.Lib (hid)
namespace Go.Proofs.YtmjjpgaeboaamaaGreatDoor
open Go.RowKit Go.Deep Go.Joins
def mk (M:List Int) (E:Int) (a j:Nat):List Int:=M.mapIdx fun k m=>if a≤k∧k<j then E else m
theorem zeL (M:List Int) (E:Int) (a j:Nat):(mk M E a j).length=M.length:=by simp [mk]
theorem ziQ (M:List Int) (E:Int) (a j:Nat) (h:j≤a):mk M E a j=M:=by
 apply List.ext_getElem (by simp [mk])
 intro k h1 h2
 simp [mk];omega
theorem zqM (M:List Int) (E:Int) (a j:Nat) (ha:a≤j):(mk M E a j).set j E=mk M E a (j+1):=by
 apply List.ext_getElem (by simp [mk])
 intro k h1 h2
 simp only [mk,List.getElem_set,List.getElem_mapIdx]
 by_cases e:j=k
 ·subst e;simp [ha]
 ·rw [if_neg e]
  by_cases h3:a≤k∧k<j
  ·rw [if_pos h3,if_pos (by omega)]
  ·rw [if_neg h3,if_neg (by omega)]
theorem zfP (M:List Int) (E:Int) (a j:Nat) (h:M.length≤j):mk M E a j=mk M E a M.length:=by
 apply List.ext_getElem (by simp [mk])
 intro k h1 h2
 simp only [mk,List.length_mapIdx] at h1
 simp only [mk,List.getElem_mapIdx]
 by_cases h3:a≤k
 ·rw [if_pos (by omega),if_pos (by omega)]
 ·rw [if_neg (by omega),if_neg (by omega)]
theorem OwnM.set {w:World} {B h n cap:Nat} {M:List Int} (hm:OwnM w B (.slice (some ⟨h,0,none⟩) n cap) M) (j:Nat) (E:Int) :
  OwnM (w.setCell ⟨h,j,none⟩ (.int .u64 E)) B (.slice (some ⟨h,0,none⟩) n cap) (M.set j E):=by
 unfold OwnM at *
 have hn:n=M.length:=by
  rcases hm.2 with ⟨e,_⟩ | ⟨_,_,_,e,_⟩
  ·cases e
  ·simp only [Value.slice.injEq] at e;exact e.2.1
 subst hn
 have e:=(World.ownsRow.stored hm j (.int .u64 E)).1
 rw [List.length_set]
 have e2:(mC M).set j (.int .u64 E)=mC (M.set j E):=by
  apply List.ext_getElem (by simp [mC])
  intro k h1 h2
  simp only [mC,List.getElem_set,List.getElem_map]
  split <;> rfl
 rwa [e2] at e
structure zbt (w:World) (z o:Nat) (dv mv:Value) (E:Int):Prop where
 row:∃ c t,w.heap[z]?=some (.cells c t (0,0))∧33≤(t:Nat)∧c[o]?=some dv∧c[o+1]?=some mv∧c[o+2]?=some (.int .u64 E)
theorem zbt.lt {w:World} {z o:Nat} {dv mv:Value} {E:Int} (h:zbt w z o dv mv E):z<w.heap.size:=by obtain ⟨c,t,h1,_⟩:=h.row;exact (Array.getElem?_eq_some_iff.1 h1).1
theorem zbt.cells {w:World} {z o:Nat} {dv mv:Value} {E:Int} (h:zbt w z o dv mv E):w.cell? ⟨z,o,none⟩=some dv∧w.cell? ⟨z,o+1,none⟩=some mv∧w.cell? ⟨z,o+2,none⟩=some (.int .u64 E):=by
 obtain ⟨c,t,h1,_,h2,h3,h4⟩:=h.row
 refine ⟨?_,?_,?_⟩ <;> rw [cell_of_row w z _ _ t (0,0) h1] <;> assumption
theorem zbt.keep {w w':World} {z o:Nat} {dv mv:Value} {E:Int} (h:zbt w z o dv mv E) (e:w'.heap[z]?=w.heap[z]?):zbt w' z o dv mv E:=by
 obtain ⟨c,t,h1,h2⟩:=h.row
 exact ⟨c,t,e.trans h1,h2⟩
theorem zbt.below {w w':World} {z o:Nat} {dv mv:Value} {E:Int} (h:zbt w z o dv mv E) (hb:Below w.heap.size w w'):zbt w' z o dv mv E:=h.keep (hb.block z h.lt)
theorem zbt.touch {w w':World} {z o:Nat} {dv mv:Value} {E:Int} {S:Nat→Prop} (h:zbt w z o dv mv E) (hb:zan w w' S) (hS:¬ S z):zbt w' z o dv mv E:=h.keep (hb.block z h.lt hS)
theorem zbt.apart {w:World} {z o:Nat} {dv mv:Value} {E:Int} (h:zbt w z o dv mv E) {B n size e:Nat} {v:Value} {xs:List Value} (ho:w.ownsRow B e size v n xs) (he:e<33):v.ownBlock≠some z:=by
 obtain ⟨c,t,h1,h2,_⟩:=h.row
 exact zbE ho h1 (fun x=>absurd (show (t:Nat)<33 from (show (e:Nat)=t from x) ▸ he) (Nat.not_lt.2 h2))
theorem zbf.at {w:World} {z:Nat} {dv mv:Value} {E:Int} (h:zbf w z dv mv E):zbt w z 0 dv mv E:=⟨_,39,h,by decide,rfl,rfl,rfl⟩
def PutS (dv mv:Value) (k:Nat):Prop:=some k=dv.ownBlock∨some k=mv.ownBlock
structure zcz (w wr:World) (B z o:Nat) (dv mv:Value) (E:Int) (D:List UInt8) (M:List Int):Prop where
 var:zbt wr z o dv mv E
 d:OwnD wr B dv D
 m:OwnM wr B mv M
 t:zan w wr (PutS dv mv)
def putB (n:Nat) (t:Int) (s:ByteArray):Bool:=decide (s.size=0) || zbq n t s.size
def putD (D:List UInt8) (t:Int) (s:ByteArray):List UInt8:=if s.size≠0∧zbq D.length t s.size=true then spl D (t - 2147483648).toNat s else D
def putM (n:Nat) (M:List Int) (E t:Int) (s:ByteArray):List Int :=
 if s.size≠0∧zbq n t s.size=true then mk M E ((t - 2147483648).toNat / 256) (((t - 2147483648).toNat+s.size - 1) / 256+1) else M
theorem zcz.same {w wr:World} {B z o:Nat} {dv mv:Value} {E:Int} {D:List UInt8} {M:List Int} (h1:zbt w z o dv mv E) (h2:OwnD w B dv D) (h3:OwnM w B mv M) (hb:Below w.heap.size w wr):zcz w wr B z o dv mv E D M :=
 ⟨h1.below hb,h2.below hb,h3.below hb,zcd hb _⟩
def Put (w:World) (B z o:Nat) (dv mv:Value) (E:Int) (D:List UInt8) (M:List Int) (t:Int) (s:ByteArray) (e:Ending) (w':World):Prop :=
 e=.returned (.bool (putB D.length t s))∧zcz w w' B z o dv mv E (putD D t s) (putM D.length M E t s)
theorem zi3 {w:World} {B g n cap off:Nat} {D:List UInt8} {x:ByteArray} (hown:OwnD w B (.slice (some ⟨g,0,none⟩) n cap) D) (hfit:off+x.size≤D.length) (dLen dCap:Nat) (hn:x.size≤dLen) :
  ∃ w',(Builtin.copy_ #[36,9] 3 #[.slice (some ⟨g,off,none⟩) dLen dCap,.string x]).run Tryz.prog w=.ok (goInt x.size) w'∧OwnD w' B (.slice (some ⟨g,0,none⟩) n cap) (spl D off x)∧zan w w' (fun k=>k=g):=by
 rcases hown.2 with ⟨h1,_⟩ | ⟨g',cap',cur,h1,h2,h3,h4,h5,h6,h7⟩
 ·cases h1
 ·simp only [Value.slice.injEq,Option.some.injEq,Addr.mk.injEq,and_true] at h1
  obtain ⟨rfl,hDn,rfl⟩:=h1
  rw [Nat.mul_one] at h7
  have hrun:=zhC (P:=Tryz.prog) w 36 9 3 5 g off dLen dCap x cur 5 Tryz.underlying36 (by kernel_rfl) h3 hn (by omega)
  exact ⟨_,hrun,zss (x:=x) h3 h2 h4 h5 h6 h7 hDn.symm hfit,(zan.refl w (fun k=>k=g)).setRow (.inl rfl) _⟩
theorem zlG (z o:Nat) (t:Int) (w:World) :
  TW 216 #[.pointer (some ⟨z,o,none⟩),.int .u64 t,.string ⟨#[]⟩] w (.bool true):=by
 go_enter Tryz.func216,Tryz.ntmps216
 go_wp2
 go_ret
 exact ⟨rfl,rfl⟩
theorem zrC (z o:Nat) (p:Option Addr) (n cap:Nat) (q:Option Addr) (m cap2:Nat) (E t:Int) (s:ByteArray) (w:World) (hv:zbt w z o (.slice p n cap) (.slice q m cap2) E) (hn:n≤9223372036854775807) (ht0:0≤t) (ht1:t≤18446744073709551615)
  (hs:s.size≤9223372036854775807) (h0:s.size≠0) (hth:zbq n t s.size=false) :
  TB 216 #[.pointer (some ⟨z,o,none⟩),.int .u64 t,.string s] w (.bool false):=by
 obtain ⟨c0,c1,c2⟩:=hv.cells
 have HT:=hid hth
 have e0:s.toList.isEmpty=false:=by
  rw [ByteArray.toList_eq,List.isEmpty_eq_false_iff]
  intro e
  have e1:s.data.toList.length=s.size:=by rw [Array.length_toList];rfl
  rw [e] at e1
  exact h0 (by simpa using e1.symm)
 have e1:s.toList≠[]:=by rw [List.isEmpty_eq_false_iff] at e0;exact e0
 clear hth h0
 go_enter Tryz.func216,Tryz.ntmps216
 go_wp2_with fail
 refine (zeH _ _ _ _ _ _ _ _ hn ht0 ht1 (by omega) (by omega)).mono ?_
 rintro e w1 ⟨rfl,hb1⟩
 rw [HT.out]
 go_wp2_with fail
 go_ret
 exact ⟨rfl,hb1⟩
def zdH (w wr:World) (B z o:Nat) (dv mv:Value) (E:Int) (D:List UInt8) (M:List Int) (a j:Nat):Prop:=zcz w wr B z o dv mv E D (mk M E a j)
theorem zdH.step {w wr:World} {B z o g h n m cap cap2:Nat} {E:Int} {D:List UInt8} {M:List Int} {a j:Nat} (hp:zdH w wr B z o (.slice (some ⟨g,0,none⟩) n cap) (.slice (some ⟨h,0,none⟩) m cap2) E D M a j) (ha:a≤j)
  (hz:(Value.slice (some ⟨h,0,none⟩) m cap2).ownBlock≠some z) :
  zdH w (wr.setCell ⟨h,j,none⟩ (.int .u64 E)).drew B z o (.slice (some ⟨g,0,none⟩) n cap) (.slice (some ⟨h,0,none⟩) m cap2) E D M a (j+1):=by
 have hzh:z≠h:=fun e=>hz (by rw [e];rfl)
 have ht:zan wr (wr.setCell ⟨h,j,none⟩ (.int .u64 E)).drew (fun k=>k=h):=((zan.refl wr (fun k=>k=h)).setCell (.inl rfl) _).drew
 refine ⟨hp.var.touch ht hzh,zb6 hp.d ht (fun x hx e=>zeh hp.d hp.m (by decide) hx (by rw [e];rfl)),?_,hp.t.trans (ht.mono (fun x _ hx=>.inr (by rw [hx];rfl)))⟩
 rw [← zqM _ _ _ _ ha]
 have h2:=hp.m.set j E
 exact zb1 h2 fun _ _=>rfl
theorem zpo (z o B:Nat) (dv mv:Value) (E t:Int) (D:List UInt8) (M:List Int) (s:ByteArray) (w:World) (hv:zbt w z o dv mv E) (hd:OwnD w B dv D) (hm:OwnM w B mv M) (ht0:0≤t) (ht1:t≤18446744073709551615)
  (hs:s.size≤9223372036854775807) (h0:s.size≠0) (hth:zbq D.length t s.size=true) :
  Calls Tryz.prog 216 #[.pointer (some ⟨z,o,none⟩),.int .u64 t,.string s] w fun e w'=>e=.returned (.bool true) ∧
   zcz w w' B z o dv mv E (spl D (t - 2147483648).toNat s) (mk M E ((t - 2147483648).toNat / 256) (((t - 2147483648).toNat+s.size - 1) / 256+1)):=by
 obtain ⟨p,cap,rfl⟩:=zbJ hd
 obtain ⟨q,cap2,rfl⟩:=zbJ hm
 have hDle:=hd.at.le
 have hMle:=hm.at.le
 obtain ⟨_,h1,h2⟩:=zcE.1 hth
 obtain ⟨c0,c1,c2⟩:=hv.cells
 have HT:=hid hth
 have e0:s.toList.isEmpty=false:=by
  rw [ByteArray.toList_eq,List.isEmpty_eq_false_iff]
  intro e
  have e1:s.data.toList.length=s.size:=by rw [Array.length_toList];rfl
  rw [e] at e1
  exact h0 (by simpa using e1.symm)
 have e1:s.toList≠[]:=by rw [List.isEmpty_eq_false_iff] at e0;exact e0
 obtain ⟨k,rfl⟩:∃ k:Nat,t=k+2147483648:=⟨(t - 2147483648).toNat,by omega⟩
 rw [show ((k:Int)+2147483648 - 2147483648).toNat=k by omega]
 have hspos:0<s.size:=by omega
 obtain ⟨g,rfl⟩:∃ g,p=some ⟨g,0,none⟩:=by
  rcases hd.2 with ⟨_,e⟩ | ⟨g,_,_,e,_⟩
  ·omega
  ·simp only [Value.slice.injEq] at e;exact ⟨g,e.1⟩
 have hcap:D.length≤cap∧cap≤9223372036854775807:=by
  rcases hd.2 with ⟨_,e⟩ | ⟨g',cap',_,e,_,_,h3,h4,_⟩
  ·omega
  ·simp only [Value.slice.injEq] at e
   rw [e.2.2]
   unfold maxLen at h4
   exact ⟨h3,by omega⟩
 clear hth h0
 go_enter Tryz.func216,Tryz.ntmps216
 go_wp2_with fail
 refine (zeH _ _ _ _ _ _ _ _ hDle ht0 ht1 (by omega) (by omega)).mono ?_
 rintro e w1 ⟨rfl,hb1⟩
 rw [HT.out]
 have hv1:=hv.below hb1
 have hm1:=hm.below hb1
 obtain ⟨w2,hrun,hd2,ht2⟩:=zi3 (x:=s) (off:=k) (hd.below hb1) (by omega) (D.length - k) (cap - k) (by omega)
 have hzg:z≠g:=fun e=>hv.apart hd (by decide) (by rw [e];rfl)
 have hmg:∀ x,(Value.slice q M.length cap2).ownBlock=some x→¬ (x=g):=fun x hx e=>zeh hm hd (by decide) hx (by rw [e];rfl)
 have hzq:(Value.slice q M.length cap2).ownBlock≠some z:=hv.apart hm (by decide)
 have hv2:=hv1.touch ht2 hzg
 have hm2:OwnM w2 B (.slice q M.length cap2) M:=zb6 hm1 ht2 hmg
 have htt:zan w w2 (PutS (.slice (some ⟨g,0,none⟩) D.length cap) (.slice q M.length cap2)):=(zcd hb1 _).trans (ht2.mono (fun x _ hx=>.inl (by rw [hx];rfl)))
 obtain ⟨g0,g1,g2⟩:=hv1.cells
 obtain ⟨d0,d1,d2⟩:=hv2.cells
 have hat:zdH w w2 B z o (.slice (some ⟨g,0,none⟩) D.length cap) (.slice q M.length cap2) E (spl D k s) M (k / 256) (k / 256):=by
  unfold zdH
  rw [ziQ _ _ _ _ (Nat.le_refl _)]
  exact ⟨hv2,hd2,hm2,htt⟩
 have HAT:=hid hat
 have HZQ:=hid hzq
 clear hat hv hd hm hv1 hm1 hb1 hv2 hm2 hd2 ht2 htt hmg hzq c0 c1 c2 d0 d1 d2
 go_wp2_with fail
 go_loopw [9] (fun i wr=>∃ j:Nat,k / 256≤j∧j≤(k+s.size - 1) / 256+1∧i=.int .i64 j∧Hid (zdH w wr B z o (.slice (some ⟨g,0,none⟩) D.length cap) (.slice q M.length cap2) E (spl D k s) M (k / 256) j)) (fun i _=>(k+s.size - 1) / 256+1 - (intOf i).toNat)
 case atStart=>exact ⟨k / 256,Nat.le_refl _,by omega,by go_num,HAT⟩
 case round =>
  obtain ⟨j,hj1,hj2,rfl,hat⟩:=hrel
  obtain ⟨c0,c1,c2⟩:=hat.out.var.cells
  by_cases hl1:j≤(k+s.size - 1) / 256
  ·by_cases hl2:j<M.length
   ·obtain ⟨h,rfl⟩:∃ h,q=some ⟨h,0,none⟩:=by
     rcases hat.out.m.2 with ⟨_,e⟩ | ⟨g,_,_,e,_⟩
     ·rw [zeL] at e;omega
     ·simp only [Value.slice.injEq] at e;exact ⟨g,e.1⟩
    have hml:=zeL M E (k / 256) j
    have c3:wr.cell? ⟨h,j,none⟩=some (.int .u64 ((mk M E (k / 256) j)[j]'(by omega))):=by
     have hmm:=hat.out.m
     unfold OwnM at hmm
     rw [hml] at hmm
     rw [hmm.cellAt j (by omega)]
     simp [mC,hml,hl2]
    have c4:wr.frozen? ⟨h,j,none⟩=false:=by
     have hmm:=hat.out.m
     unfold OwnM at hmm
     rw [hml] at hmm
     exact hmm.frozenAt j
    generalize (mk M E (k / 256) j)[j]'(by omega)=X at c3
    clear hml
    have hb1:decide ((j:Int)≤((k:Int)+s.size - 1) / 256)=true:=decide_eq_true (by omega)
    go_wp2_with fail
    go_region
    all_goals go_wp2_with fail
    exact ⟨⟨j+1,by omega,by omega,by go_num,hat.out.step hj1 HZQ.out⟩,by simp [intOf];omega⟩
   ·have hb1:decide ((j:Int)≤((k:Int)+s.size - 1) / 256)=true:=decide_eq_true (by omega)
    have hb2:decide ((j:Int)<(M.length:Int))=false:=decide_eq_false (by omega)
    have hb3:decide (j<M.length)=false:=decide_eq_false (by omega)
    go_wp2_with fail
    go_ret
    have e2:mk M E (k / 256) ((k+s.size - 1) / 256+1)=mk M E (k / 256) j:=by rw [zfP _ _ _ _ (by omega),zfP _ _ _ j (by omega)]
    refine ⟨rfl,?_⟩
    rw [e2]
    exact hat.out
  ·have hb1:decide ((j:Int)≤((k:Int)+s.size - 1) / 256)=false:=decide_eq_false (by omega)
   go_wp2_with fail
   go_ret
   obtain rfl:j=(k+s.size - 1) / 256+1:=by omega
   exact ⟨rfl,hat.out⟩
theorem zia (z o B:Nat) (dv mv:Value) (E t:Int) (D:List UInt8) (M:List Int) (s:ByteArray) (w:World) (hv:zbt w z o dv mv E) (hd:OwnD w B dv D) (hm:OwnM w B mv M) (ht0:0≤t) (ht1:t≤18446744073709551615)
  (hs:s.size≤9223372036854775807):Calls Tryz.prog 216 #[.pointer (some ⟨z,o,none⟩),.int .u64 t,.string s] w (Put w B z o dv mv E D M t s):=by
 by_cases h0:s.size=0
 ·obtain rfl:s=⟨#[]⟩:=by
   apply ByteArray.ext
   exact Array.eq_empty_of_size_eq_zero h0
  refine (zlG z o t w).mono ?_
  rintro e w' ⟨rfl,rfl⟩
  refine ⟨by simp [putB,h0],?_⟩
  rw [show putD D t ⟨#[]⟩=D from if_neg (by simp [h0]),show putM D.length M E t ⟨#[]⟩=M from if_neg (by simp [h0])]
  exact zcz.same hv hd hm (Below.refl _ _)
 ·rcases Bool.eq_false_or_eq_true (zbq D.length t s.size) with h | h
  ·refine (zpo z o B dv mv E t D M s w hv hd hm ht0 ht1 hs h0 h).mono ?_
   rintro e w' ⟨rfl,hp⟩
   refine ⟨by simp [putB,h],?_⟩
   rw [show putD D t s=_ from if_pos ⟨h0,h⟩,show putM D.length M E t s=_ from if_pos ⟨h0,h⟩]
   exact hp
  ·obtain ⟨p,cap,rfl⟩:=zbJ hd
   obtain ⟨q,cap2,rfl⟩:=zbJ hm
   refine (zrC z o p D.length cap q M.length cap2 E t s w hv hd.at.le ht0 ht1 hs h0 h).mono ?_
   rintro e w' ⟨rfl,hb⟩
   refine ⟨by simp [putB,h,h0],?_⟩
   rw [show putD D t s=D from if_neg (by simp [h]),show putM D.length M E t s=M from if_neg (by simp [h])]
   exact zcz.same hv hd hm hb
def zb9 (n:Nat) (t size:Int):Int:=if size=0∨zbq n t size=true then 0 else 50
def zcj (D:List UInt8) (t size:Int):ByteArray:=if size≠0∧zbq D.length t size=true then zeb D (t - 2147483648).toNat size.toNat else ⟨#[]⟩
theorem zfd (v:Value) (D:List UInt8) (mv ev:Value) (t size:Int) (w:World) (hd:DAt w v D) (ht0:0≤t) (ht1:t≤18446744073709551615) (hs0:-9223372036854775808≤size) (hs1:size≤9223372036854775807) :
  TB 329 #[.agg #[v,mv,ev],.int .u64 t,.int .i64 size] w (.tuple #[.string (zcj D t size),.int .i64 (zb9 D.length t size)]):=by
 by_cases h0:size=0
 ·subst h0
  have e1:zcj D t 0=⟨#[]⟩:=if_neg (by simp)
  have e2:zb9 D.length t 0=0:=if_pos (.inl rfl)
  rw [e1,e2]
  exact zxk v mv ev t w
 ·rcases Bool.eq_false_or_eq_true (zbq D.length t size) with h | h
  ·have e1:zcj D t size=zeb D (t - 2147483648).toNat size.toNat:=if_pos ⟨h0,h⟩
   have e2:zb9 D.length t size=0:=if_pos (.inr h)
   rw [e1,e2]
   exact zpP v D mv ev t size w hd ht0 ht1 hs1 (by have:=(zcE.1 h).1;omega) h
  ·have e1:zcj D t size=⟨#[]⟩:=if_neg (by simp [h])
   have e2:zb9 D.length t size=50:=if_neg (by simp [h,h0])
   rw [e1,e2]
   obtain ⟨p,cap,rfl⟩:=hd.is
   exact zww p D.length cap mv ev t size w hd.le ht0 ht1 hs0 hs1 h0 h
theorem zxl (D:List UInt8) (t:Int) (s:Nat):(zcj D t s).size≤s:=by
 unfold zcj
 split
 ·show (zeb D _ _).data.size≤s
  simp [zeb]
  omega
 ·exact Nat.zero_le _
abbrev ramC (dv mv:Value) (E:Int):Array Value:=#[dv,mv,.int .u64 E]
abbrev zgd:Array Value:=#[.slice none 0 0,.slice none 0 0,.int .u64 0]
abbrev zcy:Obj:=.cells zgd 39
theorem zfu:(Tryz.prog.info? 39).map (·.size)=some 3:=by kernel_rfl
theorem zb3 {w:World} {g:Nat} {dv mv:Value} {E:Int} (h:w.heap[g]?=some (.cells (ramC dv mv E) 39 (0,0))):(Instr.loadAt 39 (.pointer (some ⟨g,0,none⟩))).run Tryz.prog w=.ok (.agg (ramC dv mv E)) w:=by
 simp only [Instr.loadAt,Instr.sureAddr,Sem.run_bind,Sem.run_pure,Result.andThen]
 exact run_loadVar_row w g 39 39 _ (0,0) _ h Tryz.underlying39 rfl (by rw [zfu];rfl)
theorem zmX {w:World} {g:Nat} {dv mv:Value} {E:Int} (h:w.heap[g]?=some (.cells (ramC dv mv E) 39 (0,0))):(loadVar 39 ⟨g,0,none⟩).run Tryz.prog w=.ok (.agg (ramC dv mv E)) w :=
 run_loadVar_row w g 39 39 _ (0,0) _ h Tryz.underlying39 rfl (by rw [zfu];rfl)
theorem zce {w:World} {g:Nat} {old:Array Value} {p q:Option Addr} {n m c d:Nat} {E:Int} (h:w.heap[g]?=some (.cells old 39 (0,0))) (ho:old.size=3):(Instr.storeAt 39 (.pointer (some ⟨g,0,none⟩)) (.agg (ramC (.slice p n c) (.slice q m d) E))).run Tryz.prog w=.ok () (w.setRow g (ramC (.slice p n c) (.slice q m d) E)):=by
 simp only [Instr.storeAt,Instr.sureAddr,Sem.run_bind,Sem.run_pure,Result.andThen]
 exact run_storeVar_row w g 39 39 _ _ h (by rw [zfu];rfl) (by rw [ho];rfl) (by simp [Value.oneCell'])
theorem Mem.newR {W w:World} {l:List (Nat × Array Value × Nat)} {r:List (Nat × Value × Nat × List Value)} (h:Mem W w l r):Mem W (w.alloc zcy) ((w.heap.size,zgd,39) :: l) r:=h.new _ 39 (by decide)
theorem zgt {f:FuncId} {args:Array Value} {w:World} {D:List UInt8} {M:List Int} {E:Int} (h:Calls Tryz.prog f args w (zfk w D M E)):Calls Tryz.prog f args w fun e w'=>∃ u,e=.returned u∧(∃ p c q d,u=.agg (ramC (.slice p D.length c) (.slice q M.length d) E)∧w'.ownsRow w.heap.size 5 1 (.slice p D.length c) D.length (dC D)∧w'.ownsRow w.heap.size 22 1 (.slice q M.length d) M.length (mC M)∧Below w.heap.size w w') :=
 h.mono fun _ _ ⟨dv,mv,he,hd,hm,hb⟩=>by
  obtain ⟨p,c,rfl⟩:=zbJ hd
  obtain ⟨q,d,rfl⟩:=zbJ hm
  exact ⟨_,he,p,c,q,d,rfl,hd,hm,hb⟩
theorem zcW {fn:Func} {p u x y:Tmp} (h:fn.results=#[.cell p 35,.cell u 39,.tmp x,.tmp y]) (tmps:Array Value) (w:World) (g e:Nat) (k:Bd) (dv mv:Value) (E:Int) (s t:Value) (hp:tmps.getD p undef=.pointer (some ⟨g,0,none⟩)) (hg:Box w g k) (hu:tmps.getD u undef=.pointer (some ⟨e,0,none⟩)) (he:w.heap[e]?=some (.cells (ramC dv mv E) 39 (0,0))) (hx:tmps.getD x undef=s) (hy:tmps.getD y undef=t) :
  (results fn tmps).run Tryz.prog w=.ok (.tuple #[bdV k,.agg (ramC dv mv E),s,t]) w:=by
 have hp':tmps[p]?.getD undef=.pointer (some ⟨g,0,none⟩):=by simpa using hp
 have hu':tmps[u]?.getD undef=.pointer (some ⟨e,0,none⟩):=by simpa using hu
 have hx':tmps[x]?.getD undef=s:=by simpa using hx
 have hy':tmps[y]?.getD undef=t:=by simpa using hy
 simp [results,h,hp',hu',hx',hy',asAddr,Box.result hg,zmX he]
theorem zmg (W:World) (b:Bd) (p q:Option Addr) (n m c d:Nat) (E k:Int) (s:ByteArray):Mem W (((((W.alloc (bdO b)).alloc (.cells (ramC (.slice p n c) (.slice q m d) E) 39)).alloc (.cells #[.int .i64 k,.string s] 191)).alloc zak).alloc zcy)
  [(W.heap.size+1+1+1+1,zgd,39),(W.heap.size+1+1+1,bdC bdZ,35),(W.heap.size+1+1,#[.int .i64 k,.string s],191),(W.heap.size+1,ramC (.slice p n c) (.slice q m d) E,39),(W.heap.size,bdC b,35)] []:=by
 have h:=(((((Mem.start W).new (bdC b) 35 (by decide)).new (ramC (.slice p n c) (.slice q m d) E) 39 (by decide)).new #[.int .i64 k,.string s] 191 (by decide)).newZ).newR
 simp only [World.size_alloc] at h
 exact h
theorem DAt.of {w:World} {B:Nat} {v:Value} {D:List UInt8} (h:w.ownsRow B 5 1 v D.length (dC D)):DAt w v D:=zeE h
theorem zg7 {W w:World} {z:Nat} {dv mv:Value} {E:Int} {D:List UInt8} {M:List Int} {l:List (Nat × Array Value × Nat)} {r:List (Nat × Value × Nat × List Value)} (X:Mem W w ((z,ramC dv mv E,39) :: l) ((22,mv,M.length,mC M) :: (5,dv,D.length,dC D) :: r)) (hr:∀ y∈r,y.1=9) (t:Int) (s:ByteArray) (ht0:0≤t) (ht1:t≤18446744073709551615) (hs:s.size≤9223372036854775807) :
  Calls Tryz.prog 216 #[.pointer (some ⟨z,0,none⟩),.int .u64 t,.string s] w fun e w'=>∃ u,e=.returned u∧(u=.bool (putB D.length t s)∧Mem W w' ((z,ramC dv mv E,39) :: l) ((22,mv,(putM D.length M E t s).length,mC (putM D.length M E t s)) :: (5,dv,(putD D t s).length,dC (putD D t s)) :: r)):=by
 have od:OwnD w W.heap.size dv D:=X.r1
 have om:OwnM w W.heap.size mv M:=X.r0
 refine (zia z 0 W.heap.size dv mv E t D M s w (zbf.at X.g0) od om ht0 ht1 hs).mono ?_
 rintro e w' ⟨he,hp⟩
 refine ⟨_,he,rfl,?_⟩
 have nb:∀ x∈(z,ramC dv mv E,39) :: l,¬ PutS dv mv x.1:=fun x hx hS=>by
  have ht:=X.typ x hx
  rcases hS with h | h
  ·exact zbE od (X.cel x hx) (fun e=>absurd ht (by rw [← e];decide)) h.symm
  ·exact zbE om (X.cel x hx) (fun e=>absurd ht (by rw [← e];decide)) h.symm
 refine ⟨fun x hx=>(hp.t.block _ ((Array.getElem?_eq_some_iff.1 (X.cel x hx)).1) (nb x hx)).trans (X.cel x hx),X.nod,X.typ,X.big,fun y hy=>?_,fun y hy=>?_,zan.below X.below hp.t (fun k hk=>?_) X.below.size⟩
 ·rcases List.mem_cons.1 hy with rfl | hy
  ·exact hp.m
  ·rcases List.mem_cons.1 hy with rfl | hy
   ·exact hp.d
   ·have hy9:=hr y hy
    have oy:=X.own y (List.mem_cons_of_mem _ (List.mem_cons_of_mem _ hy))
    exact zb6 oy hp.t fun g hg hS=>by
     rcases hS with h | h
     ·exact zeh oy od (by rw [hy9];decide) hg h.symm
     ·exact zeh oy om (by rw [hy9];decide) hg h.symm
 ·rcases List.mem_cons.1 hy with rfl | hy
  ·exact (by decide:(22:Nat)<33)
  ·rcases List.mem_cons.1 hy with rfl | hy
   ·exact (by decide:(5:Nat)<33)
   ·exact X.row y (List.mem_cons_of_mem _ (List.mem_cons_of_mem _ hy))
 ·rcases hk with h | h
  ·exact (zbY od h.symm).1
  ·exact (zbY om h.symm).1
def secS (b:Bd) (n:Nat):ByteArray:=b.sec.extract (64*n) (64*n+64)
theorem ztd (b:Bd) (n:Nat) (W:World) (hb:hasB b=true) (hn:b.sector=n) (h16:n<16):TB 328 #[bdV b] W (.string (secS b n)):=by
 have hsz:b.sec.size=1024:=by unfold hasB at hb;have:=eq_of_beq hb;omega
 have c26:=hid (fun W=>hb ▸ zgr b W)
 have X:=hid (Box.new W b)
 have HB:=hid (zaf W (bdO b))
 have k1:IntKind.u64.wrap ((n:Int)*64)=((64*n:Nat):Int):=by rw [IntKind.wrap_u64];omega
 have k2:IntKind.u64.wrap (((64*n:Nat):Int)+64)=((64*n+64:Nat):Int):=by rw [IntKind.wrap_u64];omega
 have k3:64*n+64≤b.sec.size:=by omega
 have HE:=hid (show b.sec.extract (64*n) (64*n+64)=secS b n from rfl)
 generalize hm2:64*n+64=m2 at k2 k3 HE
 have k4:64*n≤m2:=by omega
 clear hm2
 generalize 64*n=m at k1 k2 HE k4
 have i0:(0:Int)≤m:=by omega
 have i1:(m:Int)≤m2:=by omega
 have i2:(m2:Int)≤b.sec.size:=by omega
 have i3:(0:Int)≤m2:=by omega
 clear hsz hb h16
 go_enter Tryz.func328,Tryz.ntmps328
 go_upto_region 1 with (fail)
 generalize W.alloc (bdO b)=wx at X HB ⊢
 go_upto_region 3 with (first | (with_reducible refine zaa rfl rfl (Box.load X.out) rfl ?_) | (go_at_call 90;(with_reducible refine (c26.out _).mono ?_);rintro e w2 ⟨rfl,kk⟩;have X:=hid (X.out.next kk);have HB:=hid (zad HB.out kk);clear kk) | fail)
 have m1:=X.out.cell_sector
 rw [hn] at m1
 have m2:=X.out.cell_sec
 generalize b.sec=sc at *
 go_wp2_with fail
 go_ret
 exact ⟨zv2 HE.out,HB.out⟩
def goV (D:List UInt8) (b:Bd):ByteArray × Bool:=if b.nicL<1∨64<b.nicL then (⟨#[]⟩,false) else (zcj D b.nicA b.nicL,zb9 D.length b.nicA b.nicL==0)
theorem zlk (b:Bd) (p q:Option Addr) (n m c d:Nat) (E:Int) (D:List UInt8) (W:World) (h:b.nicL<1):TB 330 #[bdV b,.agg (ramC (.slice p n c) (.slice q m d) E)] W (.tuple #[.string (goV D b).1,.bool (goV D b).2]):=by
 rw [show goV D b=(⟨#[]⟩,false) from if_pos (.inl h)]
 have h0:=((Mem.start W).new (bdC b) 35 (by decide)).new (ramC (.slice p n c) (.slice q m d) E) 39 (by decide)
 rw [World.size_alloc] at h0
 have X:=hid h0
 clear h0
 go_enter Tryz.func330,Tryz.ntmps330
 go_upto_region 1 with (fail)
 generalize (W.alloc (bdO b)).alloc (Obj.cells _ 39)=w0 at *
 have m1:=X.out.b1.cell_nicL
 go_wp2_with fail
 go_ret2
 exact ⟨rfl,X.out.below⟩
theorem zkA (b:Bd) (p q:Option Addr) (n m c d:Nat) (E:Int) (D:List UInt8) (W:World) (h1:¬ b.nicL<1) (h:64<b.nicL):TB 330 #[bdV b,.agg (ramC (.slice p n c) (.slice q m d) E)] W (.tuple #[.string (goV D b).1,.bool (goV D b).2]):=by
 rw [show goV D b=(⟨#[]⟩,false) from if_pos (.inr h)]
 have h0:=((Mem.start W).new (bdC b) 35 (by decide)).new (ramC (.slice p n c) (.slice q m d) E) 39 (by decide)
 rw [World.size_alloc] at h0
 have X:=hid h0
 clear h0
 go_enter Tryz.func330,Tryz.ntmps330
 go_upto_region 1 with (fail)
 generalize (W.alloc (bdO b)).alloc (Obj.cells _ 39)=w0 at *
 have m1:=X.out.b1.cell_nicL
 go_wp2_with fail
 go_ret2
 exact ⟨rfl,X.out.below⟩
theorem ztI (b:Bd) (p q:Option Addr) (n m c d:Nat) (E:Int) (D:List UInt8) (W:World) (h1:¬ b.nicL<1) (h:¬ 64<b.nicL) (ha:0≤b.nicA∧b.nicA≤18446744073709551615) (hd:DAt W (.slice p n c) D):TB 330 #[bdV b,.agg (ramC (.slice p n c) (.slice q m d) E)] W (.tuple #[.string (goV D b).1,.bool (goV D b).2]):=by
 rw [show goV D b=(zcj D b.nicA b.nicL,zb9 D.length b.nicA b.nicL==0) from if_neg (by omega)]
 have c36:=hid (fun w (h:DAt w (.slice p n c) D)=>zfd (.slice p n c) D (.slice q m d) (.int .u64 E) b.nicA b.nicL w h ha.1 ha.2 (by omega) (by omega))
 have hw:IntKind.i64.wrap b.nicL=b.nicL:=by rw [IntKind.wrap_i64];omega
 have HD:=hid (fun w (h:Below W.heap.size W w)=>hd.below h)
 clear ha hd
 generalize zcj D b.nicA b.nicL=ts at *
 generalize zb9 D.length b.nicA b.nicL=te at *
 have h0:=((Mem.start W).new (bdC b) 35 (by decide)).new (ramC (.slice p n c) (.slice q m d) E) 39 (by decide)
 rw [World.size_alloc] at h0
 have X:=hid h0
 clear h0
 go_enter Tryz.func330,Tryz.ntmps330
 go_upto_region 1 with (fail)
 generalize (W.alloc (bdO b)).alloc (Obj.cells _ 39)=w0 at *
 have m1:=X.out.b1.cell_nicL
 have m2:=X.out.b1.cell_nicA
 generalize b.nicL=nl at *
 generalize b.nicA=na at *
 go_wp2_with (first | (with_reducible refine zaa rfl rfl (zb3 X.out.g0) rfl ?_) | (go_at_call 329;(with_reducible refine (c36.out _ (HD.out _ X.out.below)).mono ?_);rintro e w2 ⟨rfl,kk⟩;have X:=hid (X.out.next kk);clear kk) | fail)
 go_ret2
 exact ⟨rfl,X.out.below⟩
theorem zki (b:Bd) (p q:Option Addr) (n m c d:Nat) (E:Int) (D:List UInt8) (W:World) (ha:0≤b.nicA∧b.nicA≤18446744073709551615) (hd:DAt W (.slice p n c) D):TB 330 #[bdV b,.agg (ramC (.slice p n c) (.slice q m d) E)] W (.tuple #[.string (goV D b).1,.bool (goV D b).2]):=by
 by_cases h1:b.nicL<1
 ·exact zlk b p q n m c d E D W h1
 ·by_cases h2:64<b.nicL
  ·exact zkA b p q n m c d E D W h1 h2
  ·exact ztI b p q n m c d E D W h1 h2 ha hd
theorem zhU {w:World} {B c:Nat} {p:Option Addr} {F:List ByteArray} (h:w.ownsRow B 9 1 (.slice p F.length c) F.length (sC F)) (h0:0<F.length):∃ g,p=some ⟨g,0,none⟩∧F.length≤c:=by
 rcases h.2 with ⟨_,e⟩ | ⟨g,cap,cur,e,_,_,hn,_⟩
 ·omega
 ·simp only [Value.slice.injEq,true_and] at e
  exact ⟨g,e.1,by omega⟩
theorem ze5 {w:World} {B c g:Nat} {F:List ByteArray} (h:w.ownsRow B 9 1 (.slice (some ⟨g,0,none⟩) F.length c) F.length (sC F)) (j:Nat) (hj:j<F.length):w.cell? ⟨g,j,none⟩=some (.string F[j]):=by
 have k:=h.cells (g:=g) rfl j (.string F[j]) (by simp [sC,hj])
 rwa [zd2,Nat.zero_add] at k
theorem zmY {w:World} {B c g:Nat} {F:List ByteArray} (h:w.ownsRow B 9 1 (.slice (some ⟨g,0,none⟩) F.length c) F.length (sC F)) (h0:0<F.length) (hc:F.length≤c) (hm:c≤maxLen):FAt w (.slice (some ⟨g,1,none⟩) F.tail.length (c - 1)) F.tail:=by
 refine ⟨by rw [zeY,Nat.mul_one],.inr ⟨_,_,rfl,by rw [List.length_tail];omega,by omega,fun j u hu=>?_⟩⟩
 have hj:j<F.tail.length:=by have:=(List.getElem?_eq_some_iff.1 hu).1;rwa [zeY] at this
 have hj2:1+j<F.length:=by rw [List.length_tail] at hj;omega
 rw [zd2,ze5 h (1+j) hj2]
 unfold sC at hu
 rw [List.getElem?_map,List.getElem?_eq_getElem hj] at hu
 rw [← Option.some.inj hu,List.getElem_tail]
 congr 3
 omega
theorem zq1 {w:World} {g:Nat} {F:List ByteArray} (h:F.length=1):FAt w (.slice (some ⟨g,0,none⟩) F.tail.length 0) F.tail:=by
 have h0:F.tail.length=0:=by rw [List.length_tail];omega
 refine ⟨by rw [zeY,Nat.mul_one],.inr ⟨_,_,rfl,by omega,by unfold maxLen;omega,fun j u hu=>?_⟩⟩
 have hj:=(List.getElem?_eq_some_iff.1 hu).1
 rw [zeY] at hj
 omega
theorem zhz {w:World} {B c:Nat} {p:Option Addr} {F:List ByteArray} (h:w.ownsRow B 9 1 (.slice p F.length c) F.length (sC F)) (h0:0<F.length):c≤maxLen:=by
 rcases h.2 with ⟨_,e⟩ | ⟨g,cap,cur,e,_,_,_,hm,_⟩
 ·omega
 ·simp only [Value.slice.injEq,true_and] at e
  omega
theorem Box.at_cell_sector {w:World} {g n c:Nat} {p:Option Addr} {b:Bd} (k:Box w g (b.at p n c)):w.cell? ⟨g,5,none⟩=some (.int .u64 b.sector):=k.cell_sector
theorem Box.at_cell_bad {w:World} {g n c:Nat} {p:Option Addr} {b:Bd} (k:Box w g (b.at p n c)):w.cell? ⟨g,8,none⟩=some (.bool b.bad):=k.cell_bad
theorem Box.at_sector {w:World} {g n c:Nat} {p:Option Addr} {b:Bd} (k:Box w g (b.at p n c)):(Instr.loadAt 22 (.pointer (some ⟨g,5,none⟩))).run Tryz.prog w=.ok (.int .u64 b.sector) w:=k.load_sector
theorem Box.at_addr {w:World} {g n c:Nat} {p:Option Addr} {b:Bd} (k:Box w g (b.at p n c)):(Instr.loadAt 22 (.pointer (some ⟨g,6,none⟩))).run Tryz.prog w=.ok (.int .u64 b.addr) w:=k.load_addr
theorem Box.at_nicA {w:World} {g n c:Nat} {p:Option Addr} {b:Bd} (k:Box w g (b.at p n c)):(Instr.loadAt 22 (.pointer (some ⟨g,10,none⟩))).run Tryz.prog w=.ok (.int .u64 b.nicA) w:=k.load_nicA
theorem Box.at_sec {w:World} {g n c:Nat} {p:Option Addr} {b:Bd} (k:Box w g (b.at p n c)):(Instr.loadAt 9 (.pointer (some ⟨g,4,none⟩))).run Tryz.prog w=.ok (.string b.sec) w:=k.load_sec
theorem Box.rd_fr {w:World} {g n c:Nat} {p:Option Addr} {b:Bd} (k:Box w g (b.at p n c)):(Instr.loadAt 28 (.pointer (some ⟨g,9,none⟩))).run Tryz.prog w=.ok (.slice p n c) w:=k.load_fr
structure FT (w:World) (B:Nat) (v:Value) (F:List ByteArray):Prop where
 rd:FAt w v F
 blk:∀ p n c,v=.slice (some p) n c→B≤p.block∧∃ cur,w.heap[p.block]?=some (.cells cur 9 (0,0))
theorem zaY.keep {w w':World} {v:Value} {size n:Nat} {cells:List Value} (h:zaY w v size n cells) (hb:∀ p n c,v=.slice (some p) n c→w'.heap[p.block]?=w.heap[p.block]?):zaY w' v size n cells:=by
 obtain ⟨hl,h⟩:=h
 refine ⟨hl,?_⟩
 rcases h with h | ⟨a,cap,hv,h1,h2,hc⟩
 ·exact .inl h
 ·refine .inr ⟨a,cap,hv,h1,h2,fun j u hu=>?_⟩
  have e:=hb a n cap hv
  have k:=hc j u hu
  have ej:(a.add j).block=a.block:=by unfold Addr.add;split <;> rfl
  unfold World.cell? at k ⊢
  rw [ej] at k ⊢
  rw [e]
  exact k
theorem FT.keep {w w':World} {B:Nat} {v:Value} {F:List ByteArray} (h:FT w B v F) (hb:∀ g cur,B≤g→w.heap[g]?=some (.cells cur 9 (0,0))→w'.heap[g]?=w.heap[g]?):FT w' B v F :=
 ⟨zaY.keep h.rd fun p n c hv=>by obtain ⟨h1,cur,h2⟩:=h.blk p n c hv;exact hb _ cur h1 h2,
  fun p n c hv=>by obtain ⟨h1,cur,h2⟩:=h.blk p n c hv;exact ⟨h1,cur,(hb _ cur h1 h2).trans h2⟩⟩
theorem FT.below {w w':World} {B:Nat} {v:Value} {F:List ByteArray} (h:FT w B v F) (hb:Below w.heap.size w w'):FT w' B v F :=
 h.keep fun g _ _ hg=>hb.block g (Array.getElem?_eq_some_iff.1 hg).1
theorem FT.base {w:World} {B B':Nat} {v:Value} {F:List ByteArray} (h:FT w B v F) (hB:B'≤B):FT w B' v F:=⟨h.rd,fun p n c e=>⟨Nat.le_trans hB (h.blk p n c e).1,(h.blk p n c e).2⟩⟩
theorem FT.of {w:World} {B:Nat} {v:Value} {F:List ByteArray} (h:w.ownsRow B 9 1 v F.length (sC F)):FT w B v F :=
 ⟨zeE h,fun p n c hv=>by
  rcases h.2 with ⟨e,_⟩ | ⟨g,cap,cur,e,hB,hg,_⟩
  ·rw [e] at hv;cases hv
  ·rw [e] at hv
   simp only [Value.slice.injEq,Option.some.injEq] at hv
   rw [← hv.1]
   exact ⟨hB,cur,hg⟩⟩
theorem zc8 {w:World} {B c g:Nat} {F:List ByteArray} (h:w.ownsRow B 9 1 (.slice (some ⟨g,0,none⟩) F.length c) F.length (sC F)) (h0:0<F.length) (hc:F.length≤c) (hm:c≤maxLen):FT w B (.slice (some ⟨g,1,none⟩) F.tail.length (c - 1)) F.tail :=
 ⟨zmY h h0 hc hm,fun p n c e=>by
  obtain ⟨h1,cur,h2⟩:=(FT.of h).blk ⟨g,0,none⟩ _ _ rfl
  simp only [Value.slice.injEq,Option.some.injEq] at e
  rw [← e.1]
  exact ⟨h1,cur,h2⟩⟩
theorem zc2 {w:World} {B c g:Nat} {F:List ByteArray} (h:w.ownsRow B 9 1 (.slice (some ⟨g,0,none⟩) F.length c) F.length (sC F)) (h1:F.length=1):FT w B (.slice (some ⟨g,0,none⟩) F.tail.length 0) F.tail :=
 ⟨zq1 h1,fun p n c e=>by
  obtain ⟨h1,cur,h2⟩:=(FT.of h).blk ⟨g,0,none⟩ _ _ rfl
  simp only [Value.slice.injEq,Option.some.injEq] at e
  rw [← e.1]
  exact ⟨h1,cur,h2⟩⟩
theorem Box.at_st_bad {w:World} {g n c:Nat} {p:Option Addr} {b:Bd} (k:Box w g (b.at p n c)) (v:Bool):(Instr.storeAt 4 (.pointer (some ⟨g,8,none⟩)) (.bool v)).run Tryz.prog w=.ok () (w.setRow g (bdC (({ b with bad:=v }:Bd).at p n c))):=k.store_bad v
theorem Box.at_st_sec {w:World} {g n c:Nat} {p:Option Addr} {b:Bd} (k:Box w g (b.at p n c)) (v:ByteArray):(Instr.storeAt 9 (.pointer (some ⟨g,4,none⟩)) (.string v)).run Tryz.prog w=.ok () (w.setRow g (bdC (({ b with sec:=v }:Bd).at p n c))):=k.store_sec v
def SA (g:Nat) (b:Bd) (w:World):Prop:=(Instr.loadAt 22 (.pointer (some ⟨g,5,none⟩))).run Tryz.prog w=.ok (.int .u64 b.sector) w∧(Instr.loadAt 22 (.pointer (some ⟨g,6,none⟩))).run Tryz.prog w=.ok (.int .u64 b.addr) w
theorem Box.sa {w:World} {g n c:Nat} {p:Option Addr} {b:Bd} (k:Box w g (b.at p n c)):SA g b w:=⟨k.load_sector,k.load_addr⟩
theorem zl3 (b:Bd) (W:World) (hb:hasB b=false):TB 328 #[bdV b] W (.string ⟨#[]⟩):=by
 have c26:=hid (fun W=>hb ▸ zgr b W)
 have X:=hid (Box.new W b)
 have HB:=hid (zaf W (bdO b))
 clear hb
 go_enter Tryz.func328,Tryz.ntmps328
 go_upto_region 1 with (fail)
 generalize W.alloc (bdO b)=wx at X HB ⊢
 go_wp2_with (first | (with_reducible refine zaa rfl rfl (Box.load X.out) rfl ?_) | (go_at_call 90;(with_reducible refine (c26.out _).mono ?_);rintro e w2 ⟨rfl,kk⟩;have X:=hid (X.out.next kk);have HB:=hid (zad HB.out kk);clear kk) | fail)
 go_ret
 exact ⟨rfl,HB.out⟩
def secV (b:Bd):ByteArray:=if hasB b=true then secS b b.sector.toNat else ⟨#[]⟩
structure Acts where
 b:Bd
 F:List ByteArray
 D:List UInt8
 M:List Int
 s:ByteArray
 ok:Bool
def actF (b:Bd) (F:List ByteArray) (E:Int) (D:List UInt8) (M:List Int) (k:Int) (es:ByteArray):Acts :=
 if k=1 then ⟨b,F,D,M,es,true⟩
 else if k=2 then
  if 16≤b.sector then ⟨{ b with done:=true,bad:=true },F,D,M,⟨#[]⟩,false⟩
  else ⟨{ b with done:=true,bad:=!putB D.length b.addr (secV b) },F,putD D b.addr (secV b),putM D.length M E b.addr (secV b),⟨#[]⟩,false⟩
 else if k=3 then
  if 16≤b.sector∨zb9 D.length b.addr 64≠0 then ⟨{ b with done:=true,bad:=true },F,D,M,⟨#[]⟩,false⟩
  else if hasB b=true then ⟨{ b with done:=true,bad:=false,sec:=(b.sec.extract 0 (64*b.sector.toNat) ++ zcj D b.addr 64) ++ b.sec.extract (64*b.sector.toNat+64) b.sec.size },F,D,M,⟨#[]⟩,false⟩
  else ⟨{ b with done:=true,bad:=false },F,D,M,⟨#[]⟩,false⟩
 else if k=4 then
  if h:0<F.length then ⟨b,if putB D.length b.nicA F[0]=true then F.tail else F,putD D b.nicA F[0],putM D.length M E b.nicA F[0],⟨#[]⟩,false⟩
  else ⟨b,F,D,M,⟨#[]⟩,false⟩
 else if k=5 then ⟨b,F,D,M,(goV D b).1,(goV D b).2⟩
 else ⟨b,F,D,M,⟨#[]⟩,false⟩
theorem zsR (b:Bd) (W:World) (h0:0≤b.sector) (h16:b.sector<16):TB 328 #[bdV b] W (.string (secV b)):=by
 unfold secV
 rcases Bool.eq_false_or_eq_true (hasB b) with h | h
 ·rw [if_pos h]
  exact ztd b b.sector.toNat W h (by omega) (by omega)
 ·rw [if_neg (by rw [h];simp)]
  exact zl3 b W h
theorem zrj (b:Bd):(secV b).size≤9223372036854775807:=by
 unfold secV
 split
 ·rename_i h
  have hsz:b.sec.size=1024:=by unfold hasB at h;have:=eq_of_beq h;omega
  unfold secS
  simp
  omega
 ·decide
def zjH (W:World) (E:Int) (r:Acts) (e:Ending) (W':World):Prop :=
 ∃ p c dv mv,e=.returned (.tuple #[bdV (r.b.at p r.F.length c),.agg (ramC dv mv E),.string r.s,.bool r.ok])∧FT W' W.heap.size (.slice p r.F.length c) r.F∧OwnD W' W.heap.size dv r.D∧OwnM W' W.heap.size mv r.M∧Below W.heap.size W W'
structure BdOk (b:Bd):Prop where
 addr:0≤b.addr∧b.addr≤18446744073709551615
 nicA:0≤b.nicA∧b.nicA≤18446744073709551615
 sector:0≤b.sector∧b.sector≤18446744073709551615
end Go.Proofs.YtmjjpgaeboaamaaGreatDoor
