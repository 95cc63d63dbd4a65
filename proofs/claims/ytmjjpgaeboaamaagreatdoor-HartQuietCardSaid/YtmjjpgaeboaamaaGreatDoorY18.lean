/- HartQuiet,part 18. -/
import Derived.Test.YtmjjpgaeboaamaaGreatDoorY05
set_option maxHeartbeats 4000000
set_option maxRecDepth 100000
open Go.Lib (hid)
namespace Go.Proofs.YtmjjpgaeboaamaaGreatDoor
open Go.RowKit Go.Deep Go.Joins
theorem znO (z o:Nat) (t:Int) (w:World) :
  TW 18 #[.pointer (some ⟨z,o,none⟩),.int .u64 t,.string ⟨#[]⟩] w (.bool true):=by
 go_enter Tryz.func18,Tryz.ntmps18
 go_wp2
 go_ret
 exact ⟨rfl,rfl⟩
theorem zt1 (z o:Nat) (p:Option Addr) (n cap:Nat) (q:Option Addr) (m cap2:Nat) (E t:Int) (s:ByteArray) (w:World) (hv:zbt w z o (.slice p n cap) (.slice q m cap2) E) (hn:n≤9223372036854775807) (ht0:0≤t) (ht1:t≤18446744073709551615)
  (hs:s.size≤9223372036854775807) (h0:s.size≠0) (hth:zbq n t s.size=false) :
  TB 18 #[.pointer (some ⟨z,o,none⟩),.int .u64 t,.string s] w (.bool false):=by
 obtain ⟨c0,c1,c2⟩:=hv.cells
 have HSP:=hid (show zfl n t s.size=-1 from if_neg (by rw [hth];simp))
 have e0:((s.size:Int)==0)=false:=by rw [beq_eq_false_iff_ne];omega
 clear hth h0
 go_enter Tryz.func18,Tryz.ntmps18
 go_wp2_with fail
 refine (zhj _ _ _ _ _ _ _ _ hn ht0 ht1 (by omega) (by omega)).mono ?_
 rintro e w1 ⟨rfl,hb1⟩
 rw [HSP.out]
 go_wp2_with fail
 go_ret
 exact ⟨rfl,hb1⟩
theorem zpe (z o B:Nat) (dv mv:Value) (E t:Int) (D:List UInt8) (M:List Int) (s:ByteArray) (w:World) (hv:zbt w z o dv mv E) (hd:OwnD w B dv D) (hm:OwnM w B mv M) (ht0:0≤t) (ht1:t≤18446744073709551615)
  (hs:s.size≤9223372036854775807) (h0:s.size≠0) (hth:zbq D.length t s.size=true) :
  Calls Tryz.prog 18 #[.pointer (some ⟨z,o,none⟩),.int .u64 t,.string s] w fun e w'=>e=.returned (.bool true) ∧
   zcz w w' B z o dv mv E (spl D (t - 2147483648).toNat s) (mk M E ((t - 2147483648).toNat / 256) (((t - 2147483648).toNat+s.size - 1) / 256+1)):=by
 obtain ⟨p,cap,rfl⟩:=zbJ hd
 obtain ⟨q,cap2,rfl⟩:=zbJ hm
 have hDle:=hd.at.le
 have hMle:=hm.at.le
 obtain ⟨_,h1,h2⟩:=zcE.1 hth
 obtain ⟨c0,c1,c2⟩:=hv.cells
 have hsp:zfl D.length t s.size=t - 2147483648:=if_pos ⟨by omega,hth⟩
 have e0:((s.size:Int)==0)=false:=by rw [beq_eq_false_iff_ne];omega
 obtain ⟨k,rfl⟩:∃ k:Nat,t=k+2147483648:=⟨(t - 2147483648).toNat,by omega⟩
 rw [show ((k:Int)+2147483648 - 2147483648).toNat=k by omega]
 rw [show ((k:Int)+2147483648 - 2147483648)=k by omega] at hsp
 have HSP:=hid hsp
 clear hsp
 have hspos:0<s.size:=by omega
 obtain ⟨g,rfl⟩:∃ g,p=some ⟨g,0,none⟩:=by
  rcases hd.2 with ⟨_,e⟩ | ⟨g,_,_,e,_⟩
  ·omega
  ·simp only [Value.slice.injEq] at e;exact ⟨g,e.1⟩
 have hcap:D.length≤cap∧cap≤9223372036854775807:=by
  rcases hd.2 with ⟨_,e⟩ | ⟨g',cap',_,e,_,_,h3,h4,_⟩
  ·omega
  ·simp only [Value.slice.injEq] at e
   rw [e.2.2]
   unfold maxLen at h4
   exact ⟨h3,by omega⟩
 clear hth h0
 go_enter Tryz.func18,Tryz.ntmps18
 go_wp2_with fail
 refine (zhj _ _ _ _ _ _ _ _ hDle ht0 ht1 (by omega) (by omega)).mono ?_
 rintro e w1 ⟨rfl,hb1⟩
 rw [HSP.out]
 have hv1:=hv.below hb1
 have hm1:=hm.below hb1
 obtain ⟨w2,hrun,hd2,ht2⟩:=zi3 (x:=s) (off:=k) (hd.below hb1) (by omega) (D.length - k) (cap - k) (by omega)
 have hzg:z≠g:=fun e=>hv.apart hd (by decide) (by rw [e];rfl)
 have hmg:∀ x,(Value.slice q M.length cap2).ownBlock=some x→¬ (x=g):=fun x hx e=>zeh hm hd (by decide) hx (by rw [e];rfl)
 have hzq:(Value.slice q M.length cap2).ownBlock≠some z:=hv.apart hm (by decide)
 have hv2:=hv1.touch ht2 hzg
 have hm2:OwnM w2 B (.slice q M.length cap2) M:=zb6 hm1 ht2 hmg
 have htt:zan w w2 (PutS (.slice (some ⟨g,0,none⟩) D.length cap) (.slice q M.length cap2)):=(zcd hb1 _).trans (ht2.mono (fun x _ hx=>.inl (by rw [hx];rfl)))
 obtain ⟨g0,g1,g2⟩:=hv1.cells
 obtain ⟨d0,d1,d2⟩:=hv2.cells
 have hat:zdH w w2 B z o (.slice (some ⟨g,0,none⟩) D.length cap) (.slice q M.length cap2) E (spl D k s) M (k / 256) (k / 256):=by
  unfold zdH
  rw [ziQ _ _ _ _ (Nat.le_refl _)]
  exact ⟨hv2,hd2,hm2,htt⟩
 have HAT:=hid hat
 have HZQ:=hid hzq
 clear hat hv hd hm hv1 hm1 hb1 hv2 hm2 hd2 ht2 htt hmg hzq c0 c1 c2 d0 d1 d2
 have e5:decide ((k:Int)<0)=false:=decide_eq_false (by omega)
 have hks:k+s.size≤D.length:=by omega
 clear ht0 ht1 h1 h2
 go_wp2_with fail
 go_loopw [8] (fun i wr=>∃ j:Nat,k / 256≤j∧j≤(k+s.size - 1) / 256+1∧i=.int .i64 j∧Hid (zdH w wr B z o (.slice (some ⟨g,0,none⟩) D.length cap) (.slice q M.length cap2) E (spl D k s) M (k / 256) j)) (fun i _=>(k+s.size - 1) / 256+1 - (intOf i).toNat)
 case atStart=>exact ⟨k / 256,Nat.le_refl _,by omega,by go_num,HAT⟩
 case round =>
  obtain ⟨j,hj1,hj2,rfl,hat⟩:=hrel
  obtain ⟨c0,c1,c2⟩:=hat.out.var.cells
  by_cases hl1:j≤(k+s.size - 1) / 256
  ·by_cases hl2:j<M.length
   ·obtain ⟨h,rfl⟩:∃ h,q=some ⟨h,0,none⟩:=by
     rcases hat.out.m.2 with ⟨_,e⟩ | ⟨g,_,_,e,_⟩
     ·rw [zeL] at e;omega
     ·simp only [Value.slice.injEq] at e;exact ⟨g,e.1⟩
    have hml:=zeL M E (k / 256) j
    have c3:wr.cell? ⟨h,j,none⟩=some (.int .u64 ((mk M E (k / 256) j)[j]'(by omega))):=by
     have hmm:=hat.out.m
     unfold OwnM at hmm
     rw [hml] at hmm
     rw [hmm.cellAt j (by omega)]
     simp [mC,hml,hl2]
    have c4:wr.frozen? ⟨h,j,none⟩=false:=by
     have hmm:=hat.out.m
     unfold OwnM at hmm
     rw [hml] at hmm
     exact hmm.frozenAt j
    generalize (mk M E (k / 256) j)[j]'(by omega)=X at c3
    clear hml
    have hb1:decide ((j:Int)≤((k:Int)+s.size - 1) / 256)=true:=decide_eq_true (by omega)
    go_wp2_with fail
    go_region
    all_goals go_wp2_with fail
    exact ⟨⟨j+1,by omega,by omega,by go_num,hat.out.step hj1 HZQ.out⟩,by simp [intOf];omega⟩
   ·have hb1:decide ((j:Int)≤((k:Int)+s.size - 1) / 256)=true:=decide_eq_true (by omega)
    have hb2:decide ((j:Int)<(M.length:Int))=false:=decide_eq_false (by omega)
    have hb3:decide (j<M.length)=false:=decide_eq_false (by omega)
    go_wp2_with fail
    go_ret
    have e2:mk M E (k / 256) ((k+s.size - 1) / 256+1)=mk M E (k / 256) j:=by rw [zfP _ _ _ _ (by omega),zfP _ _ _ j (by omega)]
    refine ⟨rfl,?_⟩
    rw [e2]
    exact hat.out
  ·have hb1:decide ((j:Int)≤((k:Int)+s.size - 1) / 256)=false:=decide_eq_false (by omega)
   go_wp2_with fail
   go_ret
   obtain rfl:j=(k+s.size - 1) / 256+1:=by omega
   exact ⟨rfl,hat.out⟩
theorem ztS (z o B:Nat) (dv mv:Value) (E t:Int) (D:List UInt8) (M:List Int) (s:ByteArray) (w:World) (hv:zbt w z o dv mv E) (hd:OwnD w B dv D) (hm:OwnM w B mv M) (ht0:0≤t) (ht1:t≤18446744073709551615)
  (hs:s.size≤9223372036854775807):Calls Tryz.prog 18 #[.pointer (some ⟨z,o,none⟩),.int .u64 t,.string s] w (Put w B z o dv mv E D M t s):=by
 by_cases h0:s.size=0
 ·obtain rfl:s=⟨#[]⟩:=by
   apply ByteArray.ext
   exact Array.eq_empty_of_size_eq_zero h0
  refine (znO z o t w).mono ?_
  rintro e w' ⟨rfl,rfl⟩
  refine ⟨by simp [putB,h0],?_⟩
  rw [show putD D t ⟨#[]⟩=D from if_neg (by simp [h0]),show putM D.length M E t ⟨#[]⟩=M from if_neg (by simp [h0])]
  exact zcz.same hv hd hm (Below.refl _ _)
 ·rcases Bool.eq_false_or_eq_true (zbq D.length t s.size) with h | h
  ·refine (zpe z o B dv mv E t D M s w hv hd hm ht0 ht1 hs h0 h).mono ?_
   rintro e w' ⟨rfl,hp⟩
   refine ⟨by simp [putB,h],?_⟩
   rw [show putD D t s=_ from if_pos ⟨h0,h⟩,show putM D.length M E t s=_ from if_pos ⟨h0,h⟩]
   exact hp
  ·obtain ⟨p,cap,rfl⟩:=zbJ hd
   obtain ⟨q,cap2,rfl⟩:=zbJ hm
   refine (zt1 z o p D.length cap q M.length cap2 E t s w hv hd.at.le ht0 ht1 hs h0 h).mono ?_
   rintro e w' ⟨rfl,hb⟩
   refine ⟨by simp [putB,h,h0],?_⟩
   rw [show putD D t s=D from if_neg (by simp [h]),show putM D.length M E t s=M from if_neg (by simp [h])]
   exact zcz.same hv hd hm hb
end Go.Proofs.YtmjjpgaeboaamaaGreatDoor
