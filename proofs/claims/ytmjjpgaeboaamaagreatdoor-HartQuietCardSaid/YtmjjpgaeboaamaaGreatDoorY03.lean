/- HartQuiet,part 3. -/
import Derived.BigQuiet
import Derived.StillTailTactics
import Derived.Test.YtmjjpgaeboaamaaGreatDoorY02
set_option maxHeartbeats 4000000
set_option maxRecDepth 100000
open Go.Lib (hid)
namespace Go
theorem zfy {P:Program} {w:World} {ops:Array Oper} {rest:List Oper} {o:Oper} {a:Act} {Q:Exit→Act→World→Prop} (hgd:o.guard=none) (s x:Operand) (t:TypeId)
  (ho:o.op=.call { callee:=.builtin .append,args:=#[s,x],argTypes:=#[t,t] }) (v u r:Value) (hs:a.eval s=v) (hx:a.eval x=u) (w':World)
  (hrun:(Builtin.append_ #[t,t] o.type #[v,u]).run P w=.ok r w') (h:wpList P ops Q rest (a.put o.dst r) w'):wpList P ops Q (o :: rest) a w:=by
 refine wpList_plain hgd fun K hK=>?_
 unfold Oper.wp
 simp [execOp,ho,resolve,invoke,builtin,hs,hx,hrun,Result.andThen]
 exact hK _ _ h
end Go
namespace Go.Proofs.YtmjjpgaeboaamaaGreatDoor
open Go.RowKit Go.Deep Go.Joins
theorem zjG {w:World} {B g:Nat} {e:TypeId} {size:Nat} (hg:w.heap[g]?=some (.cells #[] e (0,0))) (hB:B≤g):w.ownsRow B e size (.slice (some ⟨g,0,none⟩) 0 0) 0 [] :=
 ⟨by simp,.inr ⟨g,0,#[],rfl,hB,hg,Nat.le_refl _,Nat.zero_le _,by simp,by simp⟩⟩
theorem ziJ {w w':World} {row:Option Nat} (h:w.grownBy w' row):zan w w' (fun k=>some k=row):=⟨h.os,h.tape,h.output,h.size,fun k hk hne=>h.block k hk hne⟩
theorem zhb (w:World) (t ty e:TypeId) (i:TypeInfo) (z:Value) (bytes:Nat) (ht:Tryz.prog.underlying t=some (.slice e)) (hi:Tryz.prog.info? e=some i) (hz:i.zero=some z) (hsize:i.size=1) (hby:i.bytes=bytes) (hzs:z.cells.size=1)
  (B g:Nat) (hg:w.heap[g]?=some (.cells #[] e (0,0))) (hB:B≤g) (q:Option Addr) (n c:Nat) (cells:List Value) (hr:zaY w (.slice q n c) 1 n cells) (h1:∀ u∈cells,u.oneCell'=true) (h63:n≤maxLen) (hbytes:n*bytes≤140737488355328) (hbase:B≤w.heap.size) :
  ∃ p cap w',(Builtin.append_ #[t,t] ty #[.slice (some ⟨g,0,none⟩) 0 0,.slice q n c]).run Tryz.prog w=.ok (.slice p n cap) w'∧w'.ownsRow B e 1 (.slice p n cap) n cells∧zan w w' (fun k=>k=g):=by
 have hown:=zjG (w:=w) (B:=B) (size:=1) hg hB
 have hl:=hr.1
 rcases hr.2 with ⟨e1,rfl⟩ | ⟨a,c2,e1,_,_,hc⟩
 ·simp only [Value.slice.injEq] at e1
  obtain ⟨rfl,_,rfl⟩:=e1
  obtain rfl:cells=[]:=List.eq_nil_of_length_eq_zero (by omega)
  refine ⟨_,_,w,run_append_owned_none (P:=Tryz.prog) w B t ty e i 1 ht hi _ 0 [] hown,hown,zan.refl _ _⟩
 ·simp only [Value.slice.injEq,true_and] at e1
  obtain ⟨rfl,rfl⟩:=e1
  obtain ⟨v',w',hrun,ho,hgr,_⟩:=run_append_own (P:=Tryz.prog) w B t ty e i z 1 bytes ht hi hz hsize hby hzs (by omega) _ 0 [] hown a n c cells hl hc h1 (by omega) (by rw [Nat.zero_add];exact hbytes) hbase
  rw [Nat.zero_add,List.nil_append] at ho
  obtain ⟨p,cap,rfl⟩:=zbJ ho
  exact ⟨p,cap,w',hrun,ho,(ziJ hgr).mono (fun k _ hk=>by cases hk;rfl)⟩
theorem zmU (w:World) (a b:Value) (E:Int) (o:Obj):zbf ((w.alloc o).alloc (.cells #[a,b,.int .u64 E] 39)) (w.heap.size+1) a b E:=by
 have h:=zc0 (w.alloc o) (.cells #[a,b,.int .u64 E] 39)
 rwa [World.size_alloc] at h
theorem zuI (w:World) (a b:Value) (E:Int) (o:Obj):zbf ((w.alloc (.cells #[a,b,.int .u64 E] 39)).alloc o) w.heap.size a b E :=
 (ze4 _ (by simp)).trans (zc0 _ _)
theorem ztP (dv mv:Value) (E:Int) (D:List UInt8) (M:List Int) (w:World) (hd:DAt w dv D) (hm:MAt w mv M) (hD:D.length≤140737488351232) (hM:M.length≤17592186043904) :
  Calls Tryz.prog 57 #[.agg #[dv,mv,.int .u64 E]] w (zfk w D M E):=by
 obtain ⟨p,cap,rfl⟩:=hd.is
 obtain ⟨q,cap2,rfl⟩:=hm.is
 obtain ⟨i5,ki5,kz5,ks5,kb5⟩:=info_parts (show (Tryz.prog.info? 5).map (fun i=>(i.zero,i.size,i.bytes))=some (some (.int .u8 0),1,1) by kernel_rfl)
 obtain ⟨i24,ki24,kz24,ks24,kb24⟩:=info_parts (show (Tryz.prog.info? 22).map (fun i=>(i.zero,i.size,i.bytes))=some (some (.int .u64 0),1,8) by kernel_rfl)
 have h1:∀ v∈dC D,v.oneCell'=true:=fun v hv=>by obtain ⟨_,_,rfl⟩:=List.mem_map.1 hv;rfl
 have h2:∀ v∈mC M,v.oneCell'=true:=fun v hv=>by obtain ⟨_,_,rfl⟩:=List.mem_map.1 hv;rfl
 -- the world ahead of the first append
 obtain ⟨w1,hw1⟩:∃ w1,w1=((w.alloc (.cells #[.slice p D.length cap,.slice q M.length cap2,.int .u64 E] 39)).alloc (.cells #[.slice none 0 0,.slice none 0 0,.int .u64 0] 39)).alloc (.cells #[] 5):=⟨_,rfl⟩
 have hs1:w1.heap.size=w.heap.size+3:=by rw [hw1];simp
 have hb1:Below w.heap.size w w1:=by rw [hw1];exact (za9 w _ _).alloc (by simp;omega) _
 have hg1:w1.heap[w.heap.size+2]?=some (.cells #[] 5 (0,0)):=by
  have h:=zc0 ((w.alloc (.cells #[.slice p D.length cap,.slice q M.length cap2,.int .u64 E] 39)).alloc (.cells #[.slice none 0 0,.slice none 0 0,.int .u64 0] 39)) (.cells #[] 5)
  rw [World.size_alloc,World.size_alloc] at h
  rw [hw1];exact h
 have hx1:zbf w1 w.heap.size (.slice p D.length cap) (.slice q M.length cap2) E:=by
  rw [hw1];exact (zuI w _ _ _ _).below (zaf _ _)
 have hr1:zbf w1 (w.heap.size+1) (.slice none 0 0) (.slice none 0 0) 0:=by
  rw [hw1];exact (zmU w _ _ _ _).below (zaf _ _)
 obtain ⟨p',cap',w2,hrun2,hod2,ht2⟩:=zhb w1 36 36 5 i5 (.int .u8 0) 1 Tryz.underlying36 ki5 kz5 ks5 kb5 rfl (w.heap.size+2) (w.heap.size+1+1) hg1 (Nat.le_refl _) p D.length cap (dC D) (hd.below hb1) h1 (by unfold maxLen;omega) (by omega) (by omega)
 have hx2:=hx1.touch ht2 (by omega)
 have hr2:=hr1.touch ht2 (by omega)
 have hb2:Below w.heap.size w w2:=zan.below hb1 ht2 (fun k hk=>by omega) hb1.size
 have hsz2:=ht2.size
 -- behind the first store
 obtain ⟨w3,hw3⟩:∃ w3,w3=w2.setCell ⟨w.heap.size,0,none⟩ (.slice p' D.length cap'):=⟨_,rfl⟩
 have ht3:zan w2 w3 (fun k=>k=w.heap.size):=by rw [hw3];exact (zan.refl w2 (fun k=>k=w.heap.size)).setCell (.inl rfl) _
 have hs3:w3.heap.size=w2.heap.size:=by rw [hw3,World.size_setCell]
 have hx3:zbf w3 w.heap.size (.slice p' D.length cap') (.slice q M.length cap2) E:=by
  rw [hw3];exact heap_setCell_same w2 w.heap.size 0 _ 39 _ hx2
 have hb3:Below w.heap.size w w3:=zan.below hb2 ht3 (fun k hk=>by omega) hb2.size
 have hr3:=hr2.touch ht3 (by omega)
 have hod3:w3.ownsRow (w.heap.size+2) 5 1 (.slice p' D.length cap') D.length (dC D):=zb6 hod2 ht3 (fun g hg e=>by have:=(zbY hod2 hg).1;omega)
 obtain ⟨w4,hw4⟩:∃ w4,w4=w3.alloc (.cells #[] 22):=⟨_,rfl⟩
 have hbn:Below w3.heap.size w3 w4:=by rw [hw4];exact zaf _ _
 have hg4:w4.heap[w2.heap.size]?=some (.cells #[] 22 (0,0)):=by rw [hw4,← hs3];exact zc0 _ _
 have hs4:w4.heap.size=w2.heap.size+1:=by rw [hw4,World.size_alloc,hs3]
 have hb4:=zad hb3 hbn
 have hx4:=hx3.below hbn
 have hr4:=hr3.below hbn
 have hod4:=zcY hod3 hbn
 obtain ⟨q',cap2',w5,hrun5,hom5,ht5⟩:=zhb w4 37 37 22 i24 (.int .u64 0) 8 Tryz.underlying37 ki24 kz24 ks24 kb24 rfl w2.heap.size w2.heap.size hg4 (Nat.le_refl _) q M.length cap2 (mC M) (hm.below hb4) h2 (by unfold maxLen;omega) (by omega) (by omega)
 have hx5:=hx4.touch ht5 (by omega)
 have hr5:=hr4.touch ht5 (by omega)
 have hb5:Below w.heap.size w w5:=zan.below hb4 ht5 (fun k hk=>by omega) hb4.size
 have hod5:w5.ownsRow (w.heap.size+2) 5 1 (.slice p' D.length cap') D.length (dC D):=zb6 hod4 ht5 (fun g hg e=>by have:=(zbY hod2 hg).2;omega)
 obtain ⟨w6,hw6⟩:∃ w6,w6=w5.setCell ⟨w.heap.size,1,none⟩ (.slice q' M.length cap2'):=⟨_,rfl⟩
 have ht6:zan w5 w6 (fun k=>k=w.heap.size):=by rw [hw6];exact (zan.refl w5 (fun k=>k=w.heap.size)).setCell (.inl rfl) _
 have hx6:zbf w6 w.heap.size (.slice p' D.length cap') (.slice q' M.length cap2') E:=by
  rw [hw6];exact heap_setCell_same w5 w.heap.size 1 _ 39 _ hx5
 have hb6:Below w.heap.size w w6:=zan.below hb5 ht6 (fun k hk=>by omega) hb5.size
 have hr6:=hr5.touch ht6 (by omega)
 have hod6:w6.ownsRow (w.heap.size+2) 5 1 (.slice p' D.length cap') D.length (dC D):=zb6 hod5 ht6 (fun g hg e=>by have:=(zbY hod2 hg).1;omega)
 have hom6:w6.ownsRow w2.heap.size 22 1 (.slice q' M.length cap2') M.length (mC M):=zb6 hom5 ht6 (fun g hg e=>by have:=(zbY hom5 hg).1;omega)
 obtain ⟨x0,x1,x2⟩:=hx2.cells
 have x3:=hx2.free 0
 obtain ⟨y0,y1,y2⟩:=hx5.cells
 have y3:=hx5.free 1
 obtain ⟨v0,v1,v2⟩:=hx3.cells
 obtain ⟨a0,a1,a2⟩:=hx4.cells
 obtain ⟨z0,z1,z2⟩:=hx6.cells
 obtain ⟨r0,r1,r2⟩:=hr6.cells
 have r3:=hr6.free 0
 have r4:=hr6.free 1
 have r5:=hr6.free 2
 have hfin:=hr6.store (.slice p' D.length cap') (.slice q' M.length cap2') E
 have hpost:zfk w D M E (.returned (.agg #[.slice p' D.length cap',.slice q' M.length cap2',.int .u64 E])) (((w6.setCell ⟨w.heap.size+1,0,none⟩ (.slice p' D.length cap')).setCell ⟨w.heap.size+1,1,none⟩ (.slice q' M.length cap2')).setCell ⟨w.heap.size+1,2,none⟩ (.int .u64 E)):=by
  have ht:zan w6 (((w6.setCell ⟨w.heap.size+1,0,none⟩ (.slice p' D.length cap')).setCell ⟨w.heap.size+1,1,none⟩ (.slice q' M.length cap2')).setCell ⟨w.heap.size+1,2,none⟩ (.int .u64 E)) (fun k=>k=w.heap.size+1) :=
   (((zan.refl w6 (fun k=>k=w.heap.size+1)).setCell (.inl rfl) _).setCell (.inl rfl) _).setCell (.inl rfl) _
  refine ⟨_,_,rfl,?_,?_,((hb6.setCell (Nat.le_succ _) _).setCell (Nat.le_succ _) _).setCell (Nat.le_succ _) _⟩
  ·exact zcL (zb6 hod6 ht (fun g hg e=>by have:=(zbY hod6 hg).1;omega)) (by omega)
  ·exact zcL (zb6 hom6 ht (fun g hg e=>by have:=(zbY hom6 hg).1;omega)) (by omega)
 have HPOST:=hid hpost
 have HFIN:=hid hfin
 clear hpost hfin hd hm hb1 hg1 hx1 hr1 hod2 ht2 hx2 hr2 hb2 hsz2 ht3 hs3 hx3 hb3 hr3 hod3 hbn hg4 hs4 hb4 hx4 hr4 hod4 hom5 ht5 hx5 hr5 hb5 hod5 ht6 hx6 hb6 hr6 hod6 hom6 hs1 h1 h2 ki5 kz5 ks5 kb5 ki24 kz24 ks24 kb24
 subst hw1 hw4 hw3 hw6
 go_enter Tryz.func57,Tryz.ntmps57
 have HR2:=hid hrun2
 have HR5:=hid hrun5
 clear hrun2 hrun5
 go_wp2_with (first | (at_builtin;(refine zfy rfl (.tmp 3) (.tmp 5) 36 rfl _ _ _ rfl rfl _ HR2.out ?_)) | (at_builtin;(refine zfy rfl (.tmp 8) (.tmp 10) 37 rfl _ _ _ rfl rfl _ HR5.out ?_)))
 obtain ⟨f0,f1,f2⟩:=HFIN.out.cells
 exact bodyPost_ret (v:=.agg #[.slice p' D.length cap',.slice q' M.length cap2',.int .u64 E]) (by simp [results,Tryz.results57,go_sem,f0,f1,f2]) rfl HPOST.out
end Go.Proofs.YtmjjpgaeboaamaaGreatDoor
namespace Go.Proofs.YtmjjpgaeboaamaaGreatDoor
open Go.RowKit Go.Deep Go.Joins
def zhh (W:World) (b:Bd) (F:List ByteArray) (e:Ending) (W':World):Prop :=
 ∃ p c,e=.returned (bdV (b.at p F.length c))∧OwnF W' W.heap.size (.slice p F.length c) F∧Below W.heap.size W W'
theorem OwnF.base {w:World} {B B':Nat} {v:Value} {F:List ByteArray} (h:OwnF w B v F) (hB:B'≤B):OwnF w B' v F:=zcL h hB
theorem OwnF.over {w:World} {B g:Nat} {v:Value} {F:List ByteArray} {b:Bd} (h:OwnF w B v F) (k:Box w g b) (cs:Array Value):OwnF (w.setRow g cs) B v F :=
 zb6 h ((zan.refl w (fun k=>k=g)).setRow (.inl rfl) cs) (fun g' e e2=>h.not_box k (by rw [e,e2]))
theorem OwnF.put {w w':World} {B g:Nat} {v:Value} {F:List ByteArray} {b:Bd} {cs:Array Value} (h:OwnF w B v F) (k:Box w g b) (hw:w'=w.setRow g cs):OwnF w' B v F:=by
 subst hw;exact h.over k cs
theorem za0 (b:Bd) (F:List ByteArray) (W:World) (hf:FAt W (.slice b.fp b.fn b.fc) F) (hF:F.length≤8796093022208) :
  Calls Tryz.prog 92 #[bdV b] W (zhh W b F):=by
 go_enter Tryz.func92,Tryz.ntmps92
 go_upto_region 1 with (fail)
 have X:=hid (KA.new W b)
 generalize (W.alloc (bdO b)).alloc zak=wx at X ⊢
 obtain ⟨p,cap,w2,hrun,ho,hb⟩:=zuF wx 28 _ _ _ F (hf.next X.out.below) hF
 have HR:=hid hrun
 have X2:=hid (X.out.next hb)
 have HO:=hid (show OwnF w2 W.heap.size _ _ from ho.base X.out.below.size)
 clear hrun ho hb
 go_wp2_with (first | (with_reducible refine zaa rfl rfl (Box.load_fr X.out.own) rfl ?_) | (at_builtin;(refine zfy rfl _ _ 28 rfl _ _ _ rfl rfl _ HR.out ?_)) | (with_reducible refine Box.w_fr X2.out.own rfl rfl rfl rfl ?_;intro wy hwy;have X3:=hid (X2.out.put hwy);have HO3:=hid (HO.out.put X2.out.own hwy);clear hwy) | (with_reducible refine zaa rfl rfl (Box.load X3.out.own) rfl ?_) | (with_reducible refine zay X3.out.res rfl rfl rfl rfl ?_;intro wz hwz;have X4:=hid (X3.out.tell hwz);have HO4:=hid (HO3.out.put X3.out.res hwz);clear hwz) | fail)
 exact bodyPost_ret (v:=bdV (b.at p F.length cap)) (results_cell_row Tryz.results92 _ _ (W.heap.size+1) 35 (bdC (b.at p F.length cap)) (0,0) _ rfl X4.out.res Tryz.underlying35 rfl (by rw [zec,zaL])) rfl ⟨p,cap,rfl,HO4.out,X4.out.below⟩
theorem zqh (b:Bd) (F:List ByteArray) (W:World) (hf:FAt W (.slice b.fp b.fn b.fc) F) (hF:F.length≤8796093022208) :
  Calls Tryz.prog 58 #[bdV b] W (zhh W b F):=by
 go_enter Tryz.func58,Tryz.ntmps58
 go_upto_region 1 with (fail)
 have X:=hid (KA.new W b)
 generalize (W.alloc (bdO b)).alloc zak=wx at X ⊢
 have hl:=hf.len
 have X1:=hid (X.out.next (zaf wx (.cells #[] 9)))
 have hrd:zaY (wx.alloc (.cells #[] 9)) (.slice b.fp b.fn b.fc) 1 b.fn (sC F):=by
  have h:=(hf.next X.out.below).next (zaf wx (.cells #[] 9))
  unfold FAt at h
  rwa [← hl] at h
 obtain ⟨i,hi,hz,hs,hb⟩:=zi4
 obtain ⟨p,cap,w2,hrun,ho,ht⟩:=zhb (wx.alloc (.cells #[] 9)) 28 28 9 i (.string .empty) 16 Tryz.underlying28 hi hz hs hb rfl wx.heap.size wx.heap.size (zc0 _ _) (Nat.le_refl _) b.fp b.fn b.fc (sC F) hrd (zit F) (by unfold maxLen;omega) (by omega) (by simp)
 have hb2:Below wx.heap.size wx w2:=zan.below (zaf wx _) ht (fun k hk=>by omega) (by simp)
 have HR:=hid hrun
 have X2:=hid (X.out.next hb2)
 have HO:=hid (show OwnF w2 W.heap.size (.slice p b.fn cap) F from by unfold OwnF;rw [← hl];exact zcL ho X.out.below.size)
 have HL:=hid hl
 clear hrd hrun ho hb2 ht hf hi hz hs hb hl
 go_wp2_with (first | (with_reducible refine zaa rfl rfl (Box.load_fr X1.out.own) rfl ?_) | (at_builtin;(refine zfy rfl _ _ 28 rfl _ _ _ rfl rfl _ HR.out ?_)) | (with_reducible refine Box.w_fr X2.out.own rfl rfl rfl rfl ?_;intro wy hwy;have X3:=hid (X2.out.put hwy);have HO3:=hid (HO.out.put X2.out.own hwy);clear hwy) | (with_reducible refine zaa rfl rfl (Box.load X3.out.own) rfl ?_) | (with_reducible refine zay X3.out.res rfl rfl rfl rfl ?_;intro wz hwz;have X4:=hid (X3.out.tell hwz);have HO4:=hid (HO3.out.put X3.out.res hwz);clear hwz) | fail)
 have hl:=HL.out
 exact bodyPost_ret (v:=bdV (b.at p b.fn cap)) (results_cell_row Tryz.results58 _ _ (W.heap.size+1) 35 (bdC (b.at p b.fn cap)) (0,0) _ rfl X4.out.res Tryz.underlying35 rfl (by rw [zec,zaL])) rfl ⟨p,cap,by rw [hl],by rw [← hl];exact HO4.out,X4.out.below⟩
def bV (s:Bool) (k:Nat):Int:=if s=true then 2 ^ k else 0
theorem zfE (s:Bool) (W:World):TW 98 #[.bool s,.int .i64 0] W (.int .u64 (bV s 0)):=by
 cases s
 all_goals
  go_enter Tryz.func98,Tryz.ntmps98
  go_wp2_with fail
  go_ret
  exact ⟨rfl,rfl⟩
theorem zhe (s:Bool) (W:World):TW 98 #[.bool s,.int .i64 1] W (.int .u64 (bV s 1)):=by
 cases s
 all_goals
  go_enter Tryz.func98,Tryz.ntmps98
  go_wp2_with fail
  go_ret
  exact ⟨rfl,rfl⟩
theorem zgc (s:Bool) (W:World):TW 98 #[.bool s,.int .i64 2] W (.int .u64 (bV s 2)):=by
 cases s
 all_goals
  go_enter Tryz.func98,Tryz.ntmps98
  go_wp2_with fail
  go_ret
  exact ⟨rfl,rfl⟩
theorem zgA (s:Bool) (W:World):TW 98 #[.bool s,.int .i64 3] W (.int .u64 (bV s 3)):=by
 cases s
 all_goals
  go_enter Tryz.func98,Tryz.ntmps98
  go_wp2_with fail
  go_ret
  exact ⟨rfl,rfl⟩
theorem zsA (s:Bool) (W:World):TW 98 #[.bool s,.int .i64 7] W (.int .u64 (bV s 7)):=by
 cases s
 all_goals
  go_enter Tryz.func98,Tryz.ntmps98
  go_wp2_with fail
  go_ret
  exact ⟨rfl,rfl⟩
theorem zfV (W:World):TW 294 #[.int .u64 33554432] W (.int .i64 4):=by
 go_enter Tryz.func294,Tryz.ntmps294
 go_wp2_with fail
 go_ret
 exact ⟨rfl,rfl⟩
theorem zfU (W:World):TW 294 #[.int .u64 33570816] W (.int .i64 8):=by
 go_enter Tryz.func294,Tryz.ntmps294
 go_wp2_with fail
 go_ret
 exact ⟨rfl,rfl⟩
theorem zf8 (W:World):TW 294 #[.int .u64 33603576] W (.int .i64 8):=by
 go_enter Tryz.func294,Tryz.ntmps294
 go_wp2_with fail
 go_ret
 exact ⟨rfl,rfl⟩
theorem zfq (W:World):TW 294 #[.int .u64 268435456] W (.int .i64 1):=by
 go_enter Tryz.func294,Tryz.ntmps294
 go_wp2_with fail
 go_ret
 exact ⟨rfl,rfl⟩
theorem zgf (W:World):TW 294 #[.int .u64 268435457] W (.int .i64 1):=by
 go_enter Tryz.func294,Tryz.ntmps294
 go_wp2_with fail
 go_ret
 exact ⟨rfl,rfl⟩
theorem zfC (W:World):TW 294 #[.int .u64 268435461] W (.int .i64 1):=by
 go_enter Tryz.func294,Tryz.ntmps294
 go_wp2_with fail
 go_ret
 exact ⟨rfl,rfl⟩
theorem zge (W:World):TW 294 #[.int .u64 268439552] W (.int .i64 8):=by
 go_enter Tryz.func294,Tryz.ntmps294
 go_wp2_with fail
 go_ret
 exact ⟨rfl,rfl⟩
theorem zga (W:World):TW 294 #[.int .u64 268439560] W (.int .i64 8):=by
 go_enter Tryz.func294,Tryz.ntmps294
 go_wp2_with fail
 go_ret
 exact ⟨rfl,rfl⟩
theorem zgn (W:World):TW 294 #[.int .u64 268439568] W (.int .i64 8):=by
 go_enter Tryz.func294,Tryz.ntmps294
 go_wp2_with fail
 go_ret
 exact ⟨rfl,rfl⟩
theorem zfG (W:World):TW 294 #[.int .u64 268439576] W (.int .i64 8):=by
 go_enter Tryz.func294,Tryz.ntmps294
 go_wp2_with fail
 go_ret
 exact ⟨rfl,rfl⟩
theorem zey (W:World):TW 294 #[.int .u64 268443648] W (.int .i64 8):=by
 go_enter Tryz.func294,Tryz.ntmps294
 go_wp2_with fail
 go_ret
 exact ⟨rfl,rfl⟩
theorem zfM (W:World):TW 294 #[.int .u64 268443656] W (.int .i64 8):=by
 go_enter Tryz.func294,Tryz.ntmps294
 go_wp2_with fail
 go_ret
 exact ⟨rfl,rfl⟩
theorem zfY (W:World):TW 294 #[.int .u64 268443664] W (.int .i64 8):=by
 go_enter Tryz.func294,Tryz.ntmps294
 go_wp2_with fail
 go_ret
 exact ⟨rfl,rfl⟩
theorem zfR (W:World):TW 294 #[.int .u64 268443672] W (.int .i64 8):=by
 go_enter Tryz.func294,Tryz.ntmps294
 go_wp2_with fail
 go_ret
 exact ⟨rfl,rfl⟩
def zdg (t:Int):Prop:=(t==33554432)=false∧(t==33570816)=false∧(t==33603576)=false∧(t==268435456)=false∧(t==268435457)=false∧(t==268435461)=false∧(t==268439552)=false∧(t==268439560)=false∧(t==268439568)=false∧(t==268439576)=false∧(t==268443648)=false∧(t==268443656)=false∧(t==268443664)=false∧(t==268443672)=false
theorem zgb (t:Int) (h:zdg t) (W:World):TW 294 #[.int .u64 t] W (.int .i64 0):=by
 obtain ⟨h0,h1,h2,h3,h4,h5,h6,h7,h8,h9,h10,h11,h12,h13⟩:=h
 go_enter Tryz.func294,Tryz.ntmps294
 go_wp2_with fail
 go_ret
 exact ⟨rfl,rfl⟩
def ordV (v a b:Int):Int:=if (v==1)=true then a else if (v==2)=true then b else 0
theorem zpa (v a b:Int) (W:World):TW 296 #[.int .u64 v,.int .i64 a,.int .i64 b] W (.int .i64 (ordV v a b)):=by
 have HE:Hid (∀ x y:Bool,(v==1)=x→(v==2)=y→ordV v a b=if x=true then a else if y=true then b else 0):=hid (by rintro x y rfl rfl;rfl)
 rcases Bool.eq_false_or_eq_true (v==1) with h1 | h1
 all_goals rcases Bool.eq_false_or_eq_true (v==2) with h2 | h2
 all_goals have HF:=hid (HE.out _ _ h1 h2)
 all_goals
  go_enter Tryz.func296,Tryz.ntmps296
  go_wp2_with fail
  go_ret
  exact ⟨zah HF.out.symm,rfl⟩
def hasB (b:Bd):Bool:=(b.sec.size:Int)==1024
theorem zgr (b:Bd) (W:World):TB 90 #[bdV b] W (.bool (hasB b)):=by
 have m_sec:(bdC b)[4]?=some (.string b.sec):=zbb b 4 (by omega)
 go_enter Tryz.func90,Tryz.ntmps90
 go_wp2_with fail
 go_ret
 exact ⟨rfl,(Below.refl _ _).alloc (Nat.le_refl _) _⟩
theorem zeJ {B:Nat} {w w':World} (h:Below B w w') (n:Nat):Below B w (w'.drewN n):=⟨h.os,h.tape,h.output,h.size,h.block⟩
def zfc (b:Bd) (n:Int):Int:=bits .or .u64 (bV b.msip 3) (bV (decide (b.cmp≤n)) 7)
def zbv (b:Bd) (F:List ByteArray):Int:=IntKind.u32.wrap (bits .or .u64 (bits .or .u64 (bV (b.ier && decide (0<b.inn.size)) 1) (bV b.done 2)) (bV (decide (0<F.length)) 3))
theorem zs4 (b:Bd) (n:Int) (W:World):TB 69 #[bdV b,.int .u64 n] W (.int .u64 (zfc b n)):=by
 have m_msip:(bdC b)[0]?=some (.bool b.msip):=zbb b 0 (by omega)
 have m_cmp:(bdC b)[1]?=some (.int .u64 b.cmp):=zbb b 1 (by omega)
 obtain ⟨x,Ex⟩:∃ x,bV (b.msip) 3=x:=⟨_,rfl⟩
 have Cx:Hid (∀ W,Calls Tryz.prog 98 #[.bool (b.msip),.int .i64 3] W fun e W'=>e=.returned (.int .u64 x)∧W'=W):=hid fun W=>(zgA _ W).mono fun _ _ h=>⟨by rw [← Ex];exact h.1,h.2.symm⟩
 replace Ex:=hid Ex
 obtain ⟨y,Ey⟩:∃ x,bV (decide (b.cmp≤n)) 7=x:=⟨_,rfl⟩
 have Cy:Hid (∀ W,Calls Tryz.prog 98 #[.bool (decide (b.cmp≤n)),.int .i64 7] W fun e W'=>e=.returned (.int .u64 y)∧W'=W):=hid fun W=>(zsA _ W).mono fun _ _ h=>⟨by rw [← Ey];exact h.1,h.2.symm⟩
 replace Ey:=hid Ey
 have HE:Hid (bits .or .u64 x y=zfc b n):=hid (by unfold zfc;rw [Ex.out,Ey.out])
 go_enter Tryz.func69,Tryz.ntmps69
 go_upto_region 1 with (fail)
 go_quiet (first | (go_at_call 98;with_reducible exact Calls.quiet_of_same (Cx.out _)) | (go_at_call 98;with_reducible exact Calls.quiet_of_same (Cy.out _)))
 go_wp2_with fail
 go_ret
 exact ⟨zah HE.out,zeJ ((Below.refl _ _).alloc (Nat.le_refl _) _) _⟩
theorem zf3 (s:ByteArray):(!s.toList.isEmpty)=decide (0<s.size):=by
 rw [ByteArray.toList_eq]
 have h:s.size=s.data.toList.length:=by rw [Array.length_toList];rfl
 rw [h]
 cases s.data.toList <;> simp
theorem zuq (b:Bd) (F:List ByteArray) (W:World) (hi:b.ier=true) (hl:b.fn=F.length):TB 71 #[bdV b] W (.int .u32 (zbv b F)):=by
 have m_inn:(bdC b)[2]?=some (.string b.inn):=zbb b 2 (by omega)
 have m_ier:(bdC b)[3]?=some (.bool b.ier):=zbb b 3 (by omega)
 have m_done:(bdC b)[7]?=some (.bool b.done):=zbb b 7 (by omega)
 have m_fr:(bdC b)[9]?=some (.slice b.fp b.fn b.fc):=zbb b 9 (by omega)
 rw [hi] at m_ier
 rw [hl] at m_fr
 obtain ⟨x,Ex⟩:∃ x,bV (!b.inn.toList.isEmpty) 1=x:=⟨_,rfl⟩
 have Cx:Hid (∀ W,Calls Tryz.prog 98 #[.bool (!b.inn.toList.isEmpty),.int .i64 1] W fun e W'=>e=.returned (.int .u64 x)∧W'=W):=hid fun W=>(zhe _ W).mono fun _ _ h=>⟨by rw [← Ex];exact h.1,h.2.symm⟩
 replace Ex:=hid Ex
 obtain ⟨y,Ey⟩:∃ x,bV (b.done) 2=x:=⟨_,rfl⟩
 have Cy:Hid (∀ W,Calls Tryz.prog 98 #[.bool (b.done),.int .i64 2] W fun e W'=>e=.returned (.int .u64 y)∧W'=W):=hid fun W=>(zgc _ W).mono fun _ _ h=>⟨by rw [← Ey];exact h.1,h.2.symm⟩
 replace Ey:=hid Ey
 obtain ⟨z,Ez⟩:∃ x,bV (decide (0<F.length)) 3=x:=⟨_,rfl⟩
 have Cz:Hid (∀ W,Calls Tryz.prog 98 #[.bool (decide (0<F.length)),.int .i64 3] W fun e W'=>e=.returned (.int .u64 z)∧W'=W):=hid fun W=>(zgA _ W).mono fun _ _ h=>⟨by rw [← Ez];exact h.1,h.2.symm⟩
 replace Ez:=hid Ez
 have HE:Hid (IntKind.u32.wrap (bits .or .u64 (bits .or .u64 x y) z)=zbv b F):=hid (by unfold zbv;rw [← Ex.out,← Ey.out,← Ez.out,hi];simp [zf3])
 clear hi hl
 go_enter Tryz.func71,Tryz.ntmps71
 go_upto_region 1 with (fail)
 go_quiet (first | (go_at_call 98;with_reducible exact Calls.quiet_of_same (Cx.out _)) | (go_at_call 98;with_reducible exact Calls.quiet_of_same (Cy.out _)) | (go_at_call 98;with_reducible exact Calls.quiet_of_same (Cz.out _)))
 go_wp2_with fail
 go_ret
 exact ⟨zah HE.out,zeJ ((Below.refl _ _).alloc (Nat.le_refl _) _) _⟩
theorem zmL (b:Bd) (F:List ByteArray) (W:World) (hi:b.ier=false) (hl:b.fn=F.length):TB 71 #[bdV b] W (.int .u32 (zbv b F)):=by
 have m_inn:(bdC b)[2]?=some (.string b.inn):=zbb b 2 (by omega)
 have m_ier:(bdC b)[3]?=some (.bool b.ier):=zbb b 3 (by omega)
 have m_done:(bdC b)[7]?=some (.bool b.done):=zbb b 7 (by omega)
 have m_fr:(bdC b)[9]?=some (.slice b.fp b.fn b.fc):=zbb b 9 (by omega)
 rw [hi] at m_ier
 rw [hl] at m_fr
 obtain ⟨x,Ex⟩:∃ x,bV (false) 1=x:=⟨_,rfl⟩
 have Cx:Hid (∀ W,Calls Tryz.prog 98 #[.bool (false),.int .i64 1] W fun e W'=>e=.returned (.int .u64 x)∧W'=W):=hid fun W=>(zhe _ W).mono fun _ _ h=>⟨by rw [← Ex];exact h.1,h.2.symm⟩
 replace Ex:=hid Ex
 obtain ⟨y,Ey⟩:∃ x,bV (b.done) 2=x:=⟨_,rfl⟩
 have Cy:Hid (∀ W,Calls Tryz.prog 98 #[.bool (b.done),.int .i64 2] W fun e W'=>e=.returned (.int .u64 y)∧W'=W):=hid fun W=>(zgc _ W).mono fun _ _ h=>⟨by rw [← Ey];exact h.1,h.2.symm⟩
 replace Ey:=hid Ey
 obtain ⟨z,Ez⟩:∃ x,bV (decide (0<F.length)) 3=x:=⟨_,rfl⟩
 have Cz:Hid (∀ W,Calls Tryz.prog 98 #[.bool (decide (0<F.length)),.int .i64 3] W fun e W'=>e=.returned (.int .u64 z)∧W'=W):=hid fun W=>(zgA _ W).mono fun _ _ h=>⟨by rw [← Ez];exact h.1,h.2.symm⟩
 replace Ez:=hid Ez
 have HE:Hid (IntKind.u32.wrap (bits .or .u64 (bits .or .u64 x y) z)=zbv b F):=hid (by unfold zbv;rw [← Ex.out,← Ey.out,← Ez.out,hi];simp)
 clear hi hl
 go_enter Tryz.func71,Tryz.ntmps71
 go_upto_region 1 with (fail)
 go_quiet (first | (go_at_call 98;with_reducible exact Calls.quiet_of_same (Cx.out _)) | (go_at_call 98;with_reducible exact Calls.quiet_of_same (Cy.out _)) | (go_at_call 98;with_reducible exact Calls.quiet_of_same (Cz.out _)))
 go_wp2_with fail
 go_ret
 exact ⟨zah HE.out,zeJ ((Below.refl _ _).alloc (Nat.le_refl _) _) _⟩
theorem zjB (b:Bd) (F:List ByteArray) (W:World) (hl:b.fn=F.length):TB 71 #[bdV b] W (.int .u32 (zbv b F)):=by
 rcases Bool.eq_false_or_eq_true b.ier with hi | hi
 ·exact zuq b F W hi hl
 ·exact zmL b F W hi hl
def zd5 (s:ByteArray):Int:=if h:0<s.size then (s[0].toNat:Int) else 0
def zfi (s:ByteArray):ByteArray:=if 0<s.size then s.extract 1 s.size else s
def lenF (F:List ByteArray):Int:=if h:0<F.length then IntKind.u64.wrap (F[0].size:Int) else 0
def ldF (b:Bd) (F:List ByteArray) (t s n:Int):Bd × List ByteArray × Int × Bool :=
 if t=33554432∧s=4 then (b,F,bV b.msip 0,true) else
 if t=33570816∧s=8 then (b,F,b.cmp,true) else
 if t=33603576∧s=8 then (b,F,n,true) else
 if t=268435456∧s=1 then ({ b with inn:=zfi b.inn },F,zd5 b.inn,true) else
 if t=268435457∧s=1 then (b,F,bV b.ier 0,true) else
 if t=268435461∧s=1 then (b,F,bits .or .u64 (bV (decide (0<b.inn.size)) 0) 96,true) else
 if t=268439552∧s=8 then (b,F,b.sector,true) else
 if t=268439560∧s=8 then (b,F,b.addr,true) else
 if t=268439576∧s=8 then ({ b with done:=false },F,bits .or .u64 (bV b.done 0) (bV b.bad 1),true) else
 if t=268443648∧s=8 then (b,F,lenF F,true) else
 if t=268443656∧s=8 then (b,F,b.nicA,true) else
 if t=268443672∧s=8 then (b,F,b.nicL,true) else
 (bdZ,[],0,false)
theorem zb8 (b:Bd) (F:List ByteArray) (t s n:Int) (h:¬ (t=33554432∧s=4)∧¬ (t=33570816∧s=8)∧¬ (t=33603576∧s=8)∧¬ (t=268435456∧s=1)∧¬ (t=268435457∧s=1)∧¬ (t=268435461∧s=1)∧¬ (t=268439552∧s=8)∧¬ (t=268439560∧s=8)∧¬ (t=268439576∧s=8)∧¬ (t=268443648∧s=8)∧¬ (t=268443656∧s=8)∧¬ (t=268443672∧s=8)):ldF b F t s n=(bdZ,[],0,false):=by
 obtain ⟨h0,h1,h2,h3,h4,h5,h6,h7,h9,h10,h11,h13⟩:=h
 unfold ldF
 rw [if_neg h0,if_neg h1,if_neg h2,if_neg h3,if_neg h4,if_neg h5,if_neg h6,if_neg h7,if_neg h9,if_neg h10,if_neg h11,if_neg h13]
def Told (W:World) (r:Bd) (F:List ByteArray) (f:Value→Value) (e:Ending) (W':World):Prop :=
 ∃ p c,e=.returned (f (bdV (r.at p F.length c)))∧OwnF W' W.heap.size (.slice p F.length c) F∧Below W.heap.size W W'
theorem zaZ {fn:Func} {p u x:Tmp} (h:fn.results=#[.cell p 35,.tmp u,.tmp x]) (tmps:Array Value) (w:World) (g:Nat) (k:Bd) (v y:Value) (hp:tmps.getD p undef=.pointer (some ⟨g,0,none⟩)) (hg:Box w g k) (hv:tmps.getD u undef=v) (hy:tmps.getD x undef=y) :
  (results fn tmps).run Tryz.prog w=.ok (.tuple #[bdV k,v,y]) w:=by
 have hp':tmps[p]?.getD undef=.pointer (some ⟨g,0,none⟩):=by simpa using hp
 have hv':tmps[u]?.getD undef=v:=by simpa using hv
 have hy':tmps[x]?.getD undef=y:=by simpa using hy
 simp [results,h,hp',hv',hy',asAddr,Box.result hg]
theorem zbg {fn:Func} {p u:Tmp} (h:fn.results=#[.cell p 35,.tmp u]) (tmps:Array Value) (w:World) (g:Nat) (k:Bd) (v:Value) (hp:tmps.getD p undef=.pointer (some ⟨g,0,none⟩)) (hg:Box w g k) (hv:tmps.getD u undef=v) :
  (results fn tmps).run Tryz.prog w=.ok (.tuple #[bdV k,v]) w:=by
 rw [results_cell_tmp h,hp,hv]
 simp [asAddr,Result.andThen,Box.result hg]
theorem zdr {W W':World} (f:Value→Value) (hb:Below W.heap.size W W'):Told W bdZ [] f (.returned (f (bdV bdZ))) W':=⟨none,0,rfl,World.ownsRow_nil W' _ _ _,hb⟩
theorem KA.drewN {W w:World} {b r:Bd} (k:KA W w b r) (n:Nat):KA W (w.drewN n) b r:=k.next (zeJ (Below.refl _ _) n)
theorem OwnF.drewN {w:World} {B:Nat} {v:Value} {F:List ByteArray} (h:OwnF w B v F) (n:Nat):OwnF (w.drewN n) B v F:=h.next (zeJ (Below.refl _ _) n)
end Go.Proofs.YtmjjpgaeboaamaaGreatDoor
namespace Go
theorem za6 {P:Program} {ρ:Operand→Value} {o:Oper} {t:TypeId} {p:Operand} (ho:o.op=.load t p) {v r:Value} {w:World} (hrun:(Instr.loadAt t v).run P w=.ok r w) (hp:ρ p=v):(execOp ρ o).run P w=.ok (.value r) w:=by
 unfold execOp
 simp [ho,hp,hrun,Result.andThen]
theorem zaK {P:Program} {ops:Array Oper} {w:World} {Q:Act→Prop} {rest:List Oper} {o:Oper} {a:Act} (hgd:o.guard=none) {t:TypeId} {p:Operand} (ho:o.op=.load t p) {v r:Value} (hrun:(Instr.loadAt t v).run P w=.ok r w) (hp:a.eval p=v) (h:wpStill P ops w Q rest (a.put o.dst r)):wpStill P ops w Q (o :: rest) a:=by
 refine wpStill_step fun K hK=>?_
 simp only [Region.wanted,hgd,if_true]
 unfold Oper.still
 rw [za6 ho hrun hp]
 exact ⟨rfl,hK _ h⟩
theorem zb4 {P:Program} {ops:Array Oper} {S:World→Prop} {o:Oper} {a:Act} {t:TypeId} {p:Operand} {v r:Value} (hgd:o.guard=none) (ho:o.op=.load t p) (hp:a.eval p=v) (h:∀ w,S w→(Instr.loadAt t v).run P w=.ok r w):YieldsIf P ops S o r a :=
 .inl ⟨by simp [Region.wanted,hgd],fun w hw=>za6 ho (h w hw) hp⟩
theorem zbZ {P:Program} {md:Region.Mode} {ops:Array Oper} {Q:Exit→Act→World→Prop} {S:World→Prop} {fuel:Nat} {listed:Array Bool} {a:Act} {w w':World} {i:Nat} {o:Oper} {t:TypeId} {p x:Operand} {v u:Value}
  (hr:Region.ready md ops listed=[i]) (hi:ops[i]?=some o) (hgd:o.guard=none) (ho:o.op=.store t p x) (hp:a.eval p=v) (hx:a.eval x=u) (hrun:(Instr.storeAt t v u).run P w=.ok () w') (hS:S w')
  (h:wpAnyH P md ops Q S fuel (listed.setIfInBounds i true) (a.put o.dst undef) w'):wpAnyH P md ops Q S (fuel+1) listed a w:=by
 refine wpAnyH_ready (rs:=[i]) hr (by simp) (AllReadyH.cons hi (fun K hK=>?_) AllReadyH.nil)
 simp only [Region.wanted,hgd,if_true]
 unfold Oper.wp
 simp [execOp,ho,hp,hx,hrun,Result.andThen]
 exact hK.out _ _ hS (fun _=>h)
theorem ztc {P:Program} {md:Region.Mode} {ops:Array Oper} {Q:Exit→Act→World→Prop} {S:World→Prop} {fuel:Nat} {listed:Array Bool} {a:Act} {w w':World} {i:Nat} {o:Oper} {v:Value}
  (hr:Region.ready md ops listed=[i]) (hi:ops[i]?=some o) (hgd:o.guard=none) (hrun:(execOp a.eval o).run P w=.ok (.value v) w') (hS:S w')
  (h:wpAnyH P md ops Q S fuel (listed.setIfInBounds i true) (a.put o.dst v) w'):wpAnyH P md ops Q S (fuel+1) listed a w:=by
 refine wpAnyH_ready (rs:=[i]) hr (by simp) (AllReadyH.cons hi (fun K hK=>?_) AllReadyH.nil)
 simp only [Region.wanted,hgd,if_true]
 unfold Oper.wp
 rw [hrun]
 exact hK.out _ _ hS (fun _=>h)
end Go
