/- MachineOn, part 4. -/
import Derived.Test.YtplcfdnfeclpmaaGreatDoorV01
import Derived.Test.YtplcfdnfeclpmaaGreatDoorV03
set_option maxHeartbeats 4000000
set_option maxRecDepth 100000
open Go.Lib (hid)
namespace Go.Proofs.YtplcfdnfeclpmaaGreatDoor
open Go.RowKit Go.Deep Go.Joins
theorem Mem.newZ {W w:World} {l:List (Nat × Array Value × Nat)} {r:List (Nat × Value × Nat × List Value)} (h:Mem W w l r):Mem W (w.alloc zaj) ((w.heap.size,bdC bdZ,35) :: l) r:=h.new (bdC bdZ) 35 (by decide)
theorem Mem.newE {W w:World} {l:List (Nat × Array Value × Nat)} {r:List (Nat × Value × Nat × List Value)} (h:Mem W w l r):Mem W (w.alloc effO) ((w.heap.size,#[.int .i64 0,.string ⟨#[]⟩],162) :: l) r:=h.new _ 162 (by decide)
theorem Mem.newZE {W w:World} {l:List (Nat × Array Value × Nat)} {r:List (Nat × Value × Nat × List Value)} (h:Mem W w l r):Mem W ((w.alloc zaj).alloc effO) ((w.heap.size+1,#[.int .i64 0,.string ⟨#[]⟩],162) :: (w.heap.size,bdC bdZ,35) :: l) r:=by
 have k:=h.newZ.newE
 rwa [World.size_alloc] at k
structure Near (w:World) where
 wx:World
 near:Below w.heap.size w wx
theorem zbR {P:Program} {id:Nat} {Q:Exit→Act→World→Prop} {a:Act} {w:World} {l:List Oper} (hm:P.follows .mixedOrders=true) (hB:Region.lexB .any l.toArray=true)
  (h:wpQuiet P l.toArray (fun w'=>∃ p:Near w,w'=p.wx) (fun a'=>∀ w',(∃ p:Near w,w'=p.wx)→Q .normal a' w') l a):(Code.region id l.toArray true).wp P Q a w :=
 wp_region_quiet (C:=fun w'=>∃ p:Near w,w'=p.wx) hm hB ⟨⟨w.drew,(Below.refl _ _).drew⟩,rfl⟩ (by simpa using h)
theorem za1 {P:Program} {f:FuncId} {args:Array Value} {w:World} {p:Near w} {v:Value} (h:Calls P f args p.wx fun e w'=>e=.returned v∧Below p.wx.heap.size p.wx w') :
  Calls P f args p.wx fun e w''=>e=.returned v∧∃ p:Near w,w''=p.wx :=
 h.mono fun _ _ ⟨he,hb⟩=>⟨he,⟨_,zac p.near hb⟩,rfl⟩
theorem zbz {P:Program} {a:Act} {C:World→Prop} {o:Oper} {K:Act→Prop} (r:Value) (hrun:∀ w,C w→(execOp a.eval o).run P w=.ok (.value r) w) (hk:K (a.put o.dst r)):o.quiet P a C K :=
 ⟨r,fun w hw=>by unfold Oper.quietAt;rw [hrun w hw];exact ⟨rfl,rfl⟩,hk⟩
theorem zb5 {w:World} {g:Nat} {b:Bd} (k:Box w g b) (w':World) (hw:∃ p:Near w,w'=p.wx):(Instr.loadAt 35 (.pointer (some ⟨g,0,none⟩))).run Tryz.prog w'=.ok (bdV b) w':=by
 obtain ⟨p,rfl⟩:=hw;exact (k.next p.near).load
end Go.Proofs.YtplcfdnfeclpmaaGreatDoor
namespace Go
theorem zpA {P:Program} {md:Region.Mode} {ops:Array Oper} {Q:Exit→Act→World→Prop} {S:World→Prop} {fuel:Nat} {listed:Array Bool} {a:Act} {w:World} {i:Nat} {o:Oper} {f:FuncId} {args:Array Value} {R:Value→World→Prop}
  (hr:Region.ready md ops listed=[i]) (hi:ops[i]?=some o) (hgd:Region.wanted o (yielded ops a.tmps)=true) (hrun:(execOp a.eval o).run P w=.ok (.enter f args) w) (hc:Calls P f args w fun e w'=>∃ v,e=.returned v∧R v w')
  (h:∀ v w',R v w'→S w'∧(S w'→wpAnyH P md ops Q S fuel (listed.setIfInBounds i true) (a.put o.dst v) w')):wpAnyH P md ops Q S (fuel+1) listed a w:=by
 refine wpAnyH_ready (rs:=[i]) hr (by simp) (AllReadyH.cons hi (fun K hK=>?_) AllReadyH.nil)
 rw [if_pos hgd];unfold Oper.wp;rw [hrun,Oper.upon_enter];refine hc.mono ?_
 rintro e w' ⟨v,rfl,hR⟩
 obtain ⟨h1,h2⟩:=h v w' hR;exact hK.out _ _ h1 h2
end Go
namespace Go
theorem zli {P:Program} {md:Region.Mode} {ops:Array Oper} {Q:Exit→Act→World→Prop} {S:World→Prop} {fuel:Nat} {listed:Array Bool} {a:Act} {w w':World} {i:Nat} {o:Oper} {v:Value} {rs:List Nat}
  (hi:ops[i]?=some o) (hgd:o.guard=none) (hrun:(execOp a.eval o).run P w=.ok (.value v) w') (hS:S w')
  (h:wpAnyH P md ops Q S fuel (listed.setIfInBounds i true) (a.put o.dst v) w') (hs:AllReadyH P md ops Q S fuel listed a w rs):AllReadyH P md ops Q S fuel listed a w (i :: rs):=by
 refine AllReadyH.cons hi (fun K hK=>?_) hs
 simp only [Region.wanted,hgd,if_true];unfold Oper.wp;rw [hrun];exact hK.out _ _ hS (fun _=>h)
theorem zyU {P:Program} {md:Region.Mode} {ops:Array Oper} {Q:Exit→Act→World→Prop} {S:World→Prop} {fuel:Nat} {listed:Array Bool} {a:Act} {w:World} {i:Nat} {o:Oper} {f:FuncId} {args:Array Value} {R:Value→World→Prop} {rs:List Nat}
  (hi:ops[i]?=some o) (hgd:Region.wanted o (yielded ops a.tmps)=true) (hrun:(execOp a.eval o).run P w=.ok (.enter f args) w) (hc:Calls P f args w fun e w'=>∃ v,e=.returned v∧R v w')
  (h:∀ v w',R v w'→S w'∧(S w'→wpAnyH P md ops Q S fuel (listed.setIfInBounds i true) (a.put o.dst v) w')) (hs:AllReadyH P md ops Q S fuel listed a w rs):AllReadyH P md ops Q S fuel listed a w (i :: rs):=by
 refine AllReadyH.cons hi (fun K hK=>?_) hs
 rw [if_pos hgd];unfold Oper.wp;rw [hrun,Oper.upon_enter];refine hc.mono ?_
 rintro e w' ⟨v,rfl,hR⟩
 obtain ⟨h1,h2⟩:=h v w' hR;exact hK.out _ _ h1 h2
end Go
namespace Go.Proofs.YtplcfdnfeclpmaaGreatDoor
open Go.RowKit Go.Deep Go.Joins
theorem zh3 {f:FuncId} {args:Array Value} {w:World} {b:Bd} {F:List ByteArray} (h:Calls Tryz.prog f args w (zjS w b F)):Calls Tryz.prog f args w fun e w'=>∃ u,e=.returned u∧(∃ p c,u=bdV (b.at p F.length c)∧OwnF w' w.heap.size (.slice p F.length c) F∧Below w.heap.size w w') :=
 h.mono fun _ _ ⟨p,c,he,ho,hb⟩=>⟨_,he,p,c,rfl,ho,hb⟩
end Go.Proofs.YtplcfdnfeclpmaaGreatDoor
namespace Go
open Go.RowKit Go.Deep Go.Joins
theorem puts:(∀ (t:List Value) (d:List Deferred) (k:Nat) (v:Value),(Act.mk t.toArray d).put (some k) v=Act.mk (t.set k v).toArray d)∧(∀ (a:Act) (v:Value),a.put none v=a)∧(∀ (a v:Value) (l:List Value),(a :: l).set 0 v=v :: l)∧(∀ (a v:Value) (l:List Value) (n:Nat),(a :: l).set (n+1) v=a :: l.set n v) :=
 ⟨fun _ _ _ _=>by simp [Act.put],fun _ _=>rfl,fun _ _ _=>rfl,fun _ _ _ _=>rfl⟩
theorem nths:(∀ (l:List Oper) (i:Nat),(l.toArray)[i]?=l[i]?)∧(∀ (a:Oper) (l:List Oper),(a :: l)[0]?=some a)∧(∀ (a:Oper) (l:List Oper) (n:Nat),(a :: l)[n+1]?=l[n]?):=⟨fun _ _=>by simp,fun _ _=>by simp,fun _ _ _=>by simp⟩
theorem zbL {P:Program} {f:FuncId} {args:Array Value} {w:World} {v:Value} (h:Calls P f args w fun e w'=>e=.returned v∧RowKit.Below w.heap.size w w'):Calls P f args w fun e w'=>∃ u,e=.returned u∧(u=v∧RowKit.Below w.heap.size w w'):=h.mono fun _ _ h=>⟨v,h.1,rfl,h.2⟩
section
variable {P : Program} {md : Region.Mode} {ops : Array Oper} {Q : Exit → Act → World → Prop} {S : World → Prop} {fuel : Nat} {listed : Array Bool} {a a' : Act} {w w' : World} {o : Oper} {v : Value} {t : TypeId} {p x : Operand} {u : Value} {f : FuncId} {args : Array Value} {R : Value → World → Prop}
theorem tk (i:Nat) (hS:S w) (h:wpAnyH P md ops Q S fuel (listed.setIfInBounds i true) a' w) (hi:ops[i]?=some o:=by (simp only [nths];exact rfl))
  (hs:Region.noSelect ops=true:=by kernel_rfl) (hf:Region.free md ops listed i=true:=by kernel_rfl) (hr:(Region.ready md ops listed).contains i=true:=by kernel_rfl)
  (hQ:∀ c a w,Q (.panic c) (a.put o.dst v) w→Q (.panic c) a w:=by exact fun _ _ _ h=>h)
  (hy:YieldsIf P ops S o v a:=by first | exact Or.inr ⟨by rfl,rfl⟩ | (refine Or.inl ⟨by rfl,?_⟩;intro w hSw;(try dsimp only at hSw);(try obtain ⟨_,_⟩:=hSw);go_simp;try with_reducible rfl))
  (ha:a.put o.dst v=a':=by (simp only [puts];exact rfl)):wpAnyH P md ops Q S (fuel+1) listed a w:=by
 subst ha;exact wpAnyH_take hi hs hf hr hQ hy hS h
theorem tl (i:Nat) (hS:S w) (hl:∀ w,S w→(Instr.loadAt t u).run P w=.ok v w) (h:wpAnyH P md ops Q S fuel (listed.setIfInBounds i true) a' w) (hi:ops[i]?=some o:=by (simp only [nths];exact rfl)) (ho:o.op=.load t p:=by rfl) (hp:a.eval p=u:=by rfl)
  (hs:Region.noSelect ops=true:=by kernel_rfl) (hf:Region.free md ops listed i=true:=by kernel_rfl) (hr:(Region.ready md ops listed).contains i=true:=by kernel_rfl)
  (hQ:∀ c a w,Q (.panic c) (a.put o.dst v) w→Q (.panic c) a w:=by exact fun _ _ _ h=>h)
  (hg:Region.wanted o (yielded ops a.tmps)=true:=by kernel_rfl)
  (ha:a.put o.dst v=a':=by (simp only [puts];exact rfl)):wpAnyH P md ops Q S (fuel+1) listed a w:=by
 subst ha;exact wpAnyH_take hi hs hf hr hQ (.inl ⟨hg,fun w hw=>zbg ho (hl w hw) hp⟩) hS h
theorem hl (i:Nat) (hl:(Instr.loadAt t u).run P w=.ok v w) (hS:S w) (h:wpAnyH P md ops Q S fuel (listed.setIfInBounds i true) a' w) (hi:ops[i]?=some o:=by (simp only [nths];exact rfl)) (ho:o.op=.load t p:=by rfl) (hp:a.eval p=u:=by rfl)
  (hr:Region.ready md ops listed=[i]:=by kernel_rfl) (hg:Region.wanted o (yielded ops a.tmps)=true:=by kernel_rfl) (ha:a.put o.dst v=a':=by (simp only [puts];exact rfl)):wpAnyH P md ops Q S (fuel+1) listed a w:=by
 subst ha;refine wpAnyH_ready (rs:=[i]) hr (by simp) (AllReadyH.cons hi (fun K hK=>?_) AllReadyH.nil)
 rw [if_pos hg];unfold Oper.wp;rw [zbg ho hl hp];exact hK.out _ _ hS (fun _=>h)
theorem hs (i:Nat) (hrun:(Instr.storeAt t u v).run P w=.ok () w') (h:∀ wy,wy=w'→S wy∧(S wy→wpAnyH P md ops Q S fuel (listed.setIfInBounds i true) a' wy)) (hi:ops[i]?=some o:=by (simp only [nths];exact rfl)) (ho:o.op=.store t p x:=by rfl) (hp:a.eval p=u:=by rfl) (hx:a.eval x=v:=by rfl)
  (hr:Region.ready md ops listed=[i]:=by kernel_rfl) (hg:o.guard=none:=by rfl) (ha:a.put o.dst undef=a':=by (simp only [puts];exact rfl)):wpAnyH P md ops Q S (fuel+1) listed a w:=by
 subst ha;exact zce hr hi hg ho hp hx hrun (h w' rfl).1 ((h w' rfl).2 (h w' rfl).1)
theorem hc (i:Nat) (hc:Calls P f args w fun e w'=>∃ v,e=.returned v∧R v w') (h:∀ v w',R v w'→S w'∧(S w'→wpAnyH P md ops Q S fuel (listed.setIfInBounds i true) (a.put o.dst v) w'))
  (hi:ops[i]?=some o:=by (simp only [nths];exact rfl)) (hrun:(execOp a.eval o).run P w=.ok (.enter f args) w:=by (go_simp;try exact rfl)) (hr:Region.ready md ops listed=[i]:=by kernel_rfl) (hg:Region.wanted o (yielded ops a.tmps)=true:=by kernel_rfl):wpAnyH P md ops Q S (fuel+1) listed a w :=
 zpA hr hi hg hrun hc h
theorem ho (i:Nat) (hS:S w') (h:wpAnyH P md ops Q S fuel (listed.setIfInBounds i true) a' w') (hi:ops[i]?=some o:=by (simp only [nths];exact rfl)) (hr:Region.ready md ops listed=[i]:=by kernel_rfl) (hg:o.guard=none:=by rfl) (hrun:(execOp a.eval o).run P w=.ok (.value v) w':=by (go_simp;try exact rfl))
  (ha:a.put o.dst v=a':=by (simp only [puts];exact rfl)):wpAnyH P md ops Q S (fuel+1) listed a w:=by
 subst ha;exact zxf hr hi hg hrun hS h
theorem two (i j:Nat) (h1:AllReadyH P md ops Q S fuel listed a w [i,j]) (hr:Region.ready md ops listed=[i,j]:=by kernel_rfl):wpAnyH P md ops Q S (fuel+1) listed a w:=wpAnyH_ready hr (by simp) h1
theorem zuR (i j l:Nat) (h1:AllReadyH P md ops Q S fuel listed a w [i,j,l]) (hr:Region.ready md ops listed=[i,j,l]:=by kernel_rfl):wpAnyH P md ops Q S (fuel+1) listed a w:=wpAnyH_ready hr (by simp) h1
theorem al {rs:List Nat} (i:Nat) (hS:S w') (h:wpAnyH P md ops Q S fuel (listed.setIfInBounds i true) a' w') (hs:AllReadyH P md ops Q S fuel listed a w rs) (hi:ops[i]?=some o:=by (simp only [nths];exact rfl)) (hg:o.guard=none:=by rfl) (hrun:(execOp a.eval o).run P w=.ok (.value v) w':=by (go_simp;try exact rfl))
  (ha:a.put o.dst v=a':=by (simp only [puts];exact rfl)):AllReadyH P md ops Q S fuel listed a w (i :: rs):=by
 subst ha;exact zli hi hg hrun hS h hs
theorem ld {rs:List Nat} (i:Nat) (hl:(Instr.loadAt t u).run P w=.ok v w) (hS:S w) (h:wpAnyH P md ops Q S fuel (listed.setIfInBounds i true) a' w) (hs:AllReadyH P md ops Q S fuel listed a w rs) (hi:ops[i]?=some o:=by (simp only [nths];exact rfl)) (ho:o.op=.load t p:=by rfl) (hp:a.eval p=u:=by rfl) (hg:o.guard=none:=by rfl)
  (ha:a.put o.dst v=a':=by (simp only [puts];exact rfl)):AllReadyH P md ops Q S fuel listed a w (i :: rs):=by
 subst ha;exact zli hi hg (zbg ho hl hp) hS h hs
theorem cc {rs:List Nat} (i:Nat) (hc:Calls P f args w fun e w'=>∃ v,e=.returned v∧R v w') (h:∀ v w',R v w'→S w'∧(S w'→wpAnyH P md ops Q S fuel (listed.setIfInBounds i true) (a.put o.dst v) w')) (hs:AllReadyH P md ops Q S fuel listed a w rs)
  (hi:ops[i]?=some o:=by (simp only [nths];exact rfl)) (hrun:(execOp a.eval o).run P w=.ok (.enter f args) w:=by (go_simp;try exact rfl)) (hg:Region.wanted o (yielded ops a.tmps)=true:=by kernel_rfl):AllReadyH P md ops Q S fuel listed a w (i :: rs) :=
 zyU hi hg hrun hc h hs
theorem dr {id:Nat} (S:World→Prop) (h:∀ wz,Below w.heap.size w wz→wpAnyH P .any ops Q S ops.size (Array.replicate ops.size false) a wz) (hm:P.follows .mixedOrders=true:=by kernel_rfl):(Code.region id ops true).wp P Q a w :=
 wp_region_held hm (h w.drew (Below.refl _ _).drew)
end
end Go
namespace Go.Proofs.YtplcfdnfeclpmaaGreatDoor
open Go.RowKit Go.Deep Go.Joins
def mk (M:List Int) (E:Int) (a j:Nat):List Int:=M.mapIdx fun k m=>if a≤k∧k<j then E else m
theorem zgd (M:List Int) (E:Int) (a j:Nat):(mk M E a j).length=M.length:=by simp [mk]
theorem zl0 (M:List Int) (E:Int) (a j:Nat) (h:j≤a):mk M E a j=M:=by
 apply List.ext_getElem (by simp [mk])
 intro k h1 h2
 simp [mk];omega
theorem znE (M:List Int) (E:Int) (a j:Nat) (ha:a≤j):(mk M E a j).set j E=mk M E a (j+1):=by
 apply List.ext_getElem (by simp [mk])
 intro k h1 h2;simp only [mk,List.getElem_set,List.getElem_mapIdx]
 by_cases e:j=k
 ·subst e;simp [ha]
 ·rw [if_neg e]
  by_cases h3:a≤k∧k<j
  ·rw [if_pos h3,if_pos (by omega)]
  ·rw [if_neg h3,if_neg (by omega)]
theorem zjz (M:List Int) (E:Int) (a j:Nat) (h:M.length≤j):mk M E a j=mk M E a M.length:=by
 apply List.ext_getElem (by simp [mk])
 intro k h1 h2;simp only [mk,List.length_mapIdx] at h1;simp only [mk,List.getElem_mapIdx]
 by_cases h3:a≤k
 ·rw [if_pos (by omega),if_pos (by omega)]
 ·rw [if_neg (by omega),if_neg (by omega)]
theorem OwnM.set {w:World} {B h n cap:Nat} {M:List Int} (hm:OwnM w B (.slice (some ⟨h,0,none⟩) n cap) M) (j:Nat) (E:Int) :
  OwnM (w.setCell ⟨h,j,none⟩ (.int .u64 E)) B (.slice (some ⟨h,0,none⟩) n cap) (M.set j E):=by
 unfold OwnM at *
 have hn:n=M.length:=by
  rcases hm.2 with ⟨e,_⟩ | ⟨_,_,_,e,_⟩
  ·cases e
  ·simp only [Value.slice.injEq] at e;exact e.2.1
 subst hn;have e:=(World.ownsRow.stored hm j (.int .u64 E)).1;rw [List.length_set]
 have e2:(mC M).set j (.int .u64 E)=mC (M.set j E):=by
  apply List.ext_getElem (by simp [mC])
  intro k h1 h2;simp only [mC,List.getElem_set,List.getElem_map]
  split <;> rfl
 rwa [e2] at e
structure zb4 (w:World) (z o:Nat) (dv mv:Value) (E:Int):Prop where
 row:∃ c t,w.heap[z]?=some (.cells c t (0,0))∧33≤(t:Nat)∧c[o]?=some dv∧c[o+1]?=some mv∧c[o+2]?=some (.int .u64 E)
theorem zb4.lt {w:World} {z o:Nat} {dv mv:Value} {E:Int} (h:zb4 w z o dv mv E):z<w.heap.size:=by obtain ⟨c,t,h1,_⟩:=h.row;exact (Array.getElem?_eq_some_iff.1 h1).1
theorem zb4.cells {w:World} {z o:Nat} {dv mv:Value} {E:Int} (h:zb4 w z o dv mv E):w.cell? ⟨z,o,none⟩=some dv∧w.cell? ⟨z,o+1,none⟩=some mv∧w.cell? ⟨z,o+2,none⟩=some (.int .u64 E):=by
 obtain ⟨c,t,h1,_,h2,h3,h4⟩:=h.row;refine ⟨?_,?_,?_⟩ <;> rw [cell_of_row w z _ _ t (0,0) h1] <;> assumption
theorem zb4.keep {w w':World} {z o:Nat} {dv mv:Value} {E:Int} (h:zb4 w z o dv mv E) (e:w'.heap[z]?=w.heap[z]?):zb4 w' z o dv mv E:=by
 obtain ⟨c,t,h1,h2⟩:=h.row;exact ⟨c,t,e.trans h1,h2⟩
theorem zb4.below {w w':World} {z o:Nat} {dv mv:Value} {E:Int} (h:zb4 w z o dv mv E) (hb:Below w.heap.size w w'):zb4 w' z o dv mv E:=h.keep (hb.block z h.lt)
theorem zb4.touch {w w':World} {z o:Nat} {dv mv:Value} {E:Int} {S:Nat→Prop} (h:zb4 w z o dv mv E) (hb:zau w w' S) (hS:¬ S z):zb4 w' z o dv mv E:=h.keep (hb.block z h.lt hS)
theorem zb4.apart {w:World} {z o:Nat} {dv mv:Value} {E:Int} (h:zb4 w z o dv mv E) {B n size e:Nat} {v:Value} {xs:List Value} (ho:w.ownsRow B e size v n xs) (he:e<33):v.ownBlock≠some z:=by
 obtain ⟨c,t,h1,h2,_⟩:=h.row;exact zb8 ho h1 (fun x=>absurd (show (t:Nat)<33 from (show (e:Nat)=t from x) ▸ he) (Nat.not_lt.2 h2))
theorem zca.at {w:World} {z:Nat} {dv mv:Value} {E:Int} (h:zca w z dv mv E):zb4 w z 0 dv mv E:=⟨_,39,h,by decide,rfl,rfl,rfl⟩
def PutS (dv mv:Value) (k:Nat):Prop:=some k=dv.ownBlock∨some k=mv.ownBlock
structure zdr (w wr:World) (B z o:Nat) (dv mv:Value) (E:Int) (D:List UInt8) (M:List Int):Prop where
 var:zb4 wr z o dv mv E
 d:OwnD wr B dv D
 m:OwnM wr B mv M
 t:zau w wr (PutS dv mv)
def putB (n:Nat) (t:Int) (s:ByteArray):Bool:=decide (s.size=0) || zbV n t s.size
def putD (D:List UInt8) (t:Int) (s:ByteArray):List UInt8:=if s.size≠0∧zbV D.length t s.size=true then spl D (t - 2147483648).toNat s else D
def putM (n:Nat) (M:List Int) (E t:Int) (s:ByteArray):List Int :=
 if s.size≠0∧zbV n t s.size=true then mk M E ((t - 2147483648).toNat / 256) (((t - 2147483648).toNat+s.size - 1) / 256+1) else M
theorem zdr.same {w wr:World} {B z o:Nat} {dv mv:Value} {E:Int} {D:List UInt8} {M:List Int} (h1:zb4 w z o dv mv E) (h2:OwnD w B dv D) (h3:OwnM w B mv M) (hb:Below w.heap.size w wr):zdr w wr B z o dv mv E D M :=
 ⟨h1.below hb,h2.below hb,h3.below hb,zcr hb _⟩
def Put (w:World) (B z o:Nat) (dv mv:Value) (E:Int) (D:List UInt8) (M:List Int) (t:Int) (s:ByteArray) (e:Ending) (w':World):Prop :=
 e=.returned (.bool (putB D.length t s))∧zdr w w' B z o dv mv E (putD D t s) (putM D.length M E t s)
theorem zuF {w:World} {B g n cap off:Nat} {D:List UInt8} {x:ByteArray} (hown:OwnD w B (.slice (some ⟨g,0,none⟩) n cap) D) (hfit:off+x.size≤D.length) (dLen dCap:Nat) (hn:x.size≤dLen) :
  ∃ w',(Builtin.copy_ #[36,9] 3 #[.slice (some ⟨g,off,none⟩) dLen dCap,.string x]).run Tryz.prog w=.ok (goInt x.size) w'∧OwnD w' B (.slice (some ⟨g,0,none⟩) n cap) (spl D off x)∧zau w w' (fun k=>k=g):=by
 rcases hown.2 with ⟨h1,_⟩ | ⟨g',cap',cur,h1,h2,h3,h4,h5,h6,h7⟩
 ·cases h1
 ·simp only [Value.slice.injEq,Option.some.injEq,Addr.mk.injEq,and_true] at h1
  obtain ⟨rfl,hDn,rfl⟩:=h1;rw [Nat.mul_one] at h7;have hrun:=ziw (P:=Tryz.prog) w 36 9 3 5 g off dLen dCap x cur 5 Tryz.underlying36 (by kernel_rfl) h3 hn (by omega);exact ⟨_,hrun,zoU (x:=x) h3 h2 h4 h5 h6 h7 hDn.symm hfit,(zau.refl w (fun k=>k=g)).setRow (.inl rfl) _⟩
theorem zxy (z o:Nat) (t:Int) (w:World) :
  TW 143 #[.pointer (some ⟨z,o,none⟩),.int .u64 t,.string ⟨#[]⟩] w (.bool true):=by
 go_enter Tryz.func143,Tryz.ntmps143
 go_wp2
 go_ret;exact ⟨rfl,rfl⟩
theorem zue (z o:Nat) (p:Option Addr) (n cap:Nat) (q:Option Addr) (m cap2:Nat) (E t:Int) (s:ByteArray) (w:World) (hv:zb4 w z o (.slice p n cap) (.slice q m cap2) E) (hn:n≤9223372036854775807) (ht0:0≤t) (ht1:t≤18446744073709551615)
  (hs:s.size≤9223372036854775807) (h0:s.size≠0) (hth:zbV n t s.size=false) :
  TB 143 #[.pointer (some ⟨z,o,none⟩),.int .u64 t,.string s] w (.bool false):=by
 obtain ⟨c0,c1,c2⟩:=hv.cells;have HT:=hid hth
 have e0:s.toList.isEmpty=false:=by
  rw [ByteArray.toList_eq,List.isEmpty_eq_false_iff];intro e;have e1:s.data.toList.length=s.size:=by rw [Array.length_toList];rfl
  rw [e] at e1;exact h0 (by simpa using e1.symm)
 have e1:s.toList≠[]:=by rw [List.isEmpty_eq_false_iff] at e0;exact e0
 clear hth h0;go_enter Tryz.func143,Tryz.ntmps143;go_wp2_with fail;refine (zeS _ _ _ _ _ _ _ _ hn ht0 ht1 (by omega) (by omega)).mono ?_
 rintro e w1 ⟨rfl,hb1⟩
 rw [HT.out];go_wp2_with fail;go_ret;exact ⟨rfl,hb1⟩
def ze5 (w wr:World) (B z o:Nat) (dv mv:Value) (E:Int) (D:List UInt8) (M:List Int) (a j:Nat):Prop:=zdr w wr B z o dv mv E D (mk M E a j)
theorem ze5.step {w wr:World} {B z o g h n m cap cap2:Nat} {E:Int} {D:List UInt8} {M:List Int} {a j:Nat} (hp:ze5 w wr B z o (.slice (some ⟨g,0,none⟩) n cap) (.slice (some ⟨h,0,none⟩) m cap2) E D M a j) (ha:a≤j)
  (hz:(Value.slice (some ⟨h,0,none⟩) m cap2).ownBlock≠some z) :
  ze5 w (wr.setCell ⟨h,j,none⟩ (.int .u64 E)).drew B z o (.slice (some ⟨g,0,none⟩) n cap) (.slice (some ⟨h,0,none⟩) m cap2) E D M a (j+1):=by
 have hzh:z≠h:=fun e=>hz (by rw [e];rfl)
 have ht:zau wr (wr.setCell ⟨h,j,none⟩ (.int .u64 E)).drew (fun k=>k=h):=((zau.refl wr (fun k=>k=h)).setCell (.inl rfl) _).drew;refine ⟨hp.var.touch ht hzh,zc1 hp.d ht (fun x hx e=>ze4 hp.d hp.m (by decide) hx (by rw [e];rfl)),?_,hp.t.trans (ht.mono (fun x _ hx=>.inr (by rw [hx];rfl)))⟩
 rw [← znE _ _ _ _ ha];have h2:=hp.m.set j E;exact zbW h2 fun _ _=>rfl
theorem zuL (z o B:Nat) (dv mv:Value) (E t:Int) (D:List UInt8) (M:List Int) (s:ByteArray) (w:World) (hv:zb4 w z o dv mv E) (hd:OwnD w B dv D) (hm:OwnM w B mv M) (ht0:0≤t) (ht1:t≤18446744073709551615)
  (hs:s.size≤9223372036854775807) (h0:s.size≠0) (hth:zbV D.length t s.size=true) :
  Calls Tryz.prog 143 #[.pointer (some ⟨z,o,none⟩),.int .u64 t,.string s] w fun e w'=>e=.returned (.bool true) ∧
   zdr w w' B z o dv mv E (spl D (t - 2147483648).toNat s) (mk M E ((t - 2147483648).toNat / 256) (((t - 2147483648).toNat+s.size - 1) / 256+1)):=by
 obtain ⟨p,cap,rfl⟩:=zch hd;obtain ⟨q,cap2,rfl⟩:=zch hm;have hDle:=hd.at.le;have hMle:=hm.at.le;obtain ⟨_,h1,h2⟩:=zdX.1 hth;obtain ⟨c0,c1,c2⟩:=hv.cells;have HT:=hid hth
 have e0:s.toList.isEmpty=false:=by
  rw [ByteArray.toList_eq,List.isEmpty_eq_false_iff];intro e;have e1:s.data.toList.length=s.size:=by rw [Array.length_toList];rfl
  rw [e] at e1;exact h0 (by simpa using e1.symm)
 have e1:s.toList≠[]:=by rw [List.isEmpty_eq_false_iff] at e0;exact e0
 obtain ⟨k,rfl⟩:∃ k:Nat,t=k+2147483648:=⟨(t - 2147483648).toNat,by omega⟩;rw [show ((k:Int)+2147483648 - 2147483648).toNat=k by omega];have hspos:0<s.size:=by omega
 obtain ⟨g,rfl⟩:∃ g,p=some ⟨g,0,none⟩:=by
  rcases hd.2 with ⟨_,e⟩ | ⟨g,_,_,e,_⟩
  ·omega
  ·simp only [Value.slice.injEq] at e;exact ⟨g,e.1⟩
 have hcap:D.length≤cap∧cap≤9223372036854775807:=by
  rcases hd.2 with ⟨_,e⟩ | ⟨g',cap',_,e,_,_,h3,h4,_⟩
  ·omega
  ·simp only [Value.slice.injEq] at e
   rw [e.2.2];unfold maxLen at h4;exact ⟨h3,by omega⟩
 clear hth h0;go_enter Tryz.func143,Tryz.ntmps143;go_wp2_with fail;refine (zeS _ _ _ _ _ _ _ _ hDle ht0 ht1 (by omega) (by omega)).mono ?_
 rintro e w1 ⟨rfl,hb1⟩
 rw [HT.out];have hv1:=hv.below hb1;have hm1:=hm.below hb1;obtain ⟨w2,hrun,hd2,ht2⟩:=zuF (x:=s) (off:=k) (hd.below hb1) (by omega) (D.length - k) (cap - k) (by omega);have hzg:z≠g:=fun e=>hv.apart hd (by decide) (by rw [e];rfl)
 have hmg:∀ x,(Value.slice q M.length cap2).ownBlock=some x→¬ (x=g):=fun x hx e=>ze4 hm hd (by decide) hx (by rw [e];rfl)
 have hzq:(Value.slice q M.length cap2).ownBlock≠some z:=hv.apart hm (by decide);have hv2:=hv1.touch ht2 hzg;have hm2:OwnM w2 B (.slice q M.length cap2) M:=zc1 hm1 ht2 hmg;have htt:zau w w2 (PutS (.slice (some ⟨g,0,none⟩) D.length cap) (.slice q M.length cap2)):=(zcr hb1 _).trans (ht2.mono (fun x _ hx=>.inl (by rw [hx];rfl)));obtain ⟨g0,g1,g2⟩:=hv1.cells;obtain ⟨d0,d1,d2⟩:=hv2.cells
 have hat:ze5 w w2 B z o (.slice (some ⟨g,0,none⟩) D.length cap) (.slice q M.length cap2) E (spl D k s) M (k / 256) (k / 256):=by
  unfold ze5;rw [zl0 _ _ _ _ (Nat.le_refl _)];exact ⟨hv2,hd2,hm2,htt⟩
 have HAT:=hid hat;have HZQ:=hid hzq;clear hat hv hd hm hv1 hm1 hb1 hv2 hm2 hd2 ht2 htt hmg hzq c0 c1 c2 d0 d1 d2;go_wp2_with fail
 go_loopw [9] (fun i wr=>∃ j:Nat,k / 256≤j∧j≤(k+s.size - 1) / 256+1∧i=.int .i64 j∧Hid (ze5 w wr B z o (.slice (some ⟨g,0,none⟩) D.length cap) (.slice q M.length cap2) E (spl D k s) M (k / 256) j)) (fun i _=>(k+s.size - 1) / 256+1 - (intOf i).toNat)
 case atStart=>exact ⟨k / 256,Nat.le_refl _,by omega,by go_num,HAT⟩
 case round =>
  obtain ⟨j,hj1,hj2,rfl,hat⟩:=hrel;obtain ⟨c0,c1,c2⟩:=hat.out.var.cells
  by_cases hl1:j≤(k+s.size - 1) / 256
  ·by_cases hl2:j<M.length
   ·obtain ⟨h,rfl⟩:∃ h,q=some ⟨h,0,none⟩:=by
     rcases hat.out.m.2 with ⟨_,e⟩ | ⟨g,_,_,e,_⟩
     ·rw [zgd] at e;omega
     ·simp only [Value.slice.injEq] at e;exact ⟨g,e.1⟩
    have hml:=zgd M E (k / 256) j
    have c3:wr.cell? ⟨h,j,none⟩=some (.int .u64 ((mk M E (k / 256) j)[j]'(by omega))):=by
     have hmm:=hat.out.m;unfold OwnM at hmm;rw [hml] at hmm;rw [hmm.cellAt j (by omega)]
     simp [mC,hml,hl2]
    have c4:wr.frozen? ⟨h,j,none⟩=false:=by
     have hmm:=hat.out.m;unfold OwnM at hmm;rw [hml] at hmm;exact hmm.frozenAt j
    generalize (mk M E (k / 256) j)[j]'(by omega)=X at c3;clear hml;have hb1:decide ((j:Int)≤((k:Int)+s.size - 1) / 256)=true:=decide_eq_true (by omega);go_wp2_with fail
    go_region
    all_goals go_wp2_with fail
    exact ⟨⟨j+1,by omega,by omega,by go_num,hat.out.step hj1 HZQ.out⟩,by simp [intOf];omega⟩
   ·have hb1:decide ((j:Int)≤((k:Int)+s.size - 1) / 256)=true:=decide_eq_true (by omega)
    have hb2:decide ((j:Int)<(M.length:Int))=false:=decide_eq_false (by omega);have hb3:decide (j<M.length)=false:=decide_eq_false (by omega);go_wp2_with fail;go_ret;have e2:mk M E (k / 256) ((k+s.size - 1) / 256+1)=mk M E (k / 256) j:=by rw [zjz _ _ _ _ (by omega),zjz _ _ _ j (by omega)]
    refine ⟨rfl,?_⟩
    rw [e2];exact hat.out
  ·have hb1:decide ((j:Int)≤((k:Int)+s.size - 1) / 256)=false:=decide_eq_false (by omega)
   go_wp2_with fail;go_ret;obtain rfl:j=(k+s.size - 1) / 256+1:=by omega
   exact ⟨rfl,hat.out⟩
theorem ziK (z o B:Nat) (dv mv:Value) (E t:Int) (D:List UInt8) (M:List Int) (s:ByteArray) (w:World) (hv:zb4 w z o dv mv E) (hd:OwnD w B dv D) (hm:OwnM w B mv M) (ht0:0≤t) (ht1:t≤18446744073709551615)
  (hs:s.size≤9223372036854775807):Calls Tryz.prog 143 #[.pointer (some ⟨z,o,none⟩),.int .u64 t,.string s] w (Put w B z o dv mv E D M t s):=by
 by_cases h0:s.size=0
 ·obtain rfl:s=⟨#[]⟩:=by
   apply ByteArray.ext
   exact Array.eq_empty_of_size_eq_zero h0
  refine (zxy z o t w).mono ?_
  rintro e w' ⟨rfl,rfl⟩
  refine ⟨by simp [putB,h0],?_⟩
  rw [show putD D t ⟨#[]⟩=D from if_neg (by simp [h0]),show putM D.length M E t ⟨#[]⟩=M from if_neg (by simp [h0])];exact zdr.same hv hd hm (Below.refl _ _)
 ·rcases Bool.eq_false_or_eq_true (zbV D.length t s.size) with h | h
  ·refine (zuL z o B dv mv E t D M s w hv hd hm ht0 ht1 hs h0 h).mono ?_
   rintro e w' ⟨rfl,hp⟩
   refine ⟨by simp [putB,h],?_⟩
   rw [show putD D t s=_ from if_pos ⟨h0,h⟩,show putM D.length M E t s=_ from if_pos ⟨h0,h⟩];exact hp
  ·obtain ⟨p,cap,rfl⟩:=zch hd
   obtain ⟨q,cap2,rfl⟩:=zch hm;refine (zue z o p D.length cap q M.length cap2 E t s w hv hd.at.le ht0 ht1 hs h0 h).mono ?_
   rintro e w' ⟨rfl,hb⟩
   refine ⟨by simp [putB,h,h0],?_⟩
   rw [show putD D t s=D from if_neg (by simp [h]),show putM D.length M E t s=M from if_neg (by simp [h])];exact zdr.same hv hd hm hb
def zb0 (n:Nat) (t size:Int):Int:=if size=0∨zbV n t size=true then 0 else 50
def zcg (D:List UInt8) (t size:Int):ByteArray:=if size≠0∧zbV D.length t size=true then zeM D (t - 2147483648).toNat size.toNat else ⟨#[]⟩
theorem zfz (v:Value) (D:List UInt8) (mv ev:Value) (t size:Int) (w:World) (hd:DAt w v D) (ht0:0≤t) (ht1:t≤18446744073709551615) (hs0:-9223372036854775808≤size) (hs1:size≤9223372036854775807) :
  TB 221 #[.agg #[v,mv,ev],.int .u64 t,.int .i64 size] w (.tuple #[.string (zcg D t size),.int .i64 (zb0 D.length t size)]):=by
 by_cases h0:size=0
 ·subst h0
  have e1:zcg D t 0=⟨#[]⟩:=if_neg (by simp);have e2:zb0 D.length t 0=0:=if_pos (.inl rfl);rw [e1,e2];exact zzg v mv ev t w
 ·rcases Bool.eq_false_or_eq_true (zbV D.length t size) with h | h
  ·have e1:zcg D t size=zeM D (t - 2147483648).toNat size.toNat:=if_pos ⟨h0,h⟩
   have e2:zb0 D.length t size=0:=if_pos (.inr h);rw [e1,e2];exact zlU v D mv ev t size w hd ht0 ht1 hs1 (by have:=(zdX.1 h).1;omega) h
  ·have e1:zcg D t size=⟨#[]⟩:=if_neg (by simp [h])
   have e2:zb0 D.length t size=50:=if_neg (by simp [h,h0]);rw [e1,e2];obtain ⟨p,cap,rfl⟩:=hd.is;exact zyO p D.length cap mv ev t size w hd.le ht0 ht1 hs0 hs1 h0 h
theorem zq9 (D:List UInt8) (t:Int) (s:Nat):(zcg D t s).size≤s:=by
 unfold zcg
 split
 ·show (zeM D _ _).data.size≤s
  simp [zeM]
  omega
 ·exact Nat.zero_le _
end Go.Proofs.YtplcfdnfeclpmaaGreatDoor
