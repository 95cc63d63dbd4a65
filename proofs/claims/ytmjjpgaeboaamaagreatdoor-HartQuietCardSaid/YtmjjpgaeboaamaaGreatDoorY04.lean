/- HartQuiet,part 4. -/
import Derived.Test.YtmjjpgaeboaamaaGreatDoorY03
set_option maxHeartbeats 4000000
set_option maxRecDepth 100000
open Go.Lib (hid)
namespace Go.Proofs.YtmjjpgaeboaamaaGreatDoor
open Go.RowKit Go.Deep Go.Joins
structure Mem (W wx:World) (l:List (Nat × Array Value × Nat)) (r:List (Nat × Value × Nat × List Value)):Prop where
 cel:∀ x∈l,wx.heap[x.1]?=some (.cells x.2.1 x.2.2 (0,0))
 nod:(l.map (·.1)).Nodup
 typ:∀ x∈l,33≤x.2.2
 big:∀ x∈l,W.heap.size≤x.1
 own:∀ y∈r,wx.ownsRow W.heap.size y.1 1 y.2.1 y.2.2.1 y.2.2.2
 row:∀ y∈r,y.1<33
 below:Below W.heap.size W wx
theorem Mem.start (W:World):Mem W W [] []:=⟨by simp,by simp,by simp,by simp,by simp,by simp,Below.refl _ _⟩
theorem Mem.next {W w w':World} {l:List (Nat × Array Value × Nat)} {r:List (Nat × Value × Nat × List Value)} (h:Mem W w l r) (j:Below w.heap.size w w'):Mem W w' l r :=
 ⟨fun x hx=>(j.block _ ((Array.getElem?_eq_some_iff.1 (h.cel x hx)).1)).trans (h.cel x hx),h.nod,h.typ,h.big,fun y hy=>zcY (h.own y hy) j,h.row,zad h.below j⟩
theorem Mem.new {W w:World} {l:List (Nat × Array Value × Nat)} {r:List (Nat × Value × Nat × List Value)} (h:Mem W w l r) (cs:Array Value) (t:Nat) (ht:33≤t):Mem W (w.alloc (.cells cs t)) ((w.heap.size,cs,t) :: l) r:=by
 have k:=h.next (zaf w (.cells cs t))
 refine ⟨fun x hx=>?_,?_,fun x hx=>?_,fun x hx=>?_,k.own,h.row,k.below⟩
 ·rcases List.mem_cons.1 hx with rfl | hx
  ·exact heap_alloc_last w _
  ·exact k.cel x hx
 ·rw [List.map_cons,List.nodup_cons]
  refine ⟨fun hm=>?_,h.nod⟩
  obtain ⟨x,hx,e⟩:=List.mem_map.1 hm
  have hlt:=(Array.getElem?_eq_some_iff.1 (h.cel x hx)).1
  omega
 ·rcases List.mem_cons.1 hx with rfl | hx
  ·exact ht
  ·exact h.typ x hx
 ·rcases List.mem_cons.1 hx with rfl | hx
  ·exact h.below.size
  ·exact h.big x hx
theorem Mem.addrow {W w:World} {l:List (Nat × Array Value × Nat)} {r:List (Nat × Value × Nat × List Value)} (h:Mem W w l r) {e:Nat} {B:Nat} {v:Value} {n:Nat} {xs:List Value} (ho:w.ownsRow B e 1 v n xs) (hB:W.heap.size≤B) (he:e<33):Mem W w l ((e,v,n,xs) :: r) :=
 ⟨h.cel,h.nod,h.typ,h.big,fun y hy=>by
  rcases List.mem_cons.1 hy with rfl | hy
  ·exact zcL ho hB
  ·exact h.own y hy,fun y hy=>by
  rcases List.mem_cons.1 hy with rfl | hy
  ·exact he
  ·exact h.row y hy,h.below⟩
theorem Mem.set {W w w':World} {a l:List (Nat × Array Value × Nat)} {k t:Nat} {cs cs':Array Value} {r:List (Nat × Value × Nat × List Value)} (h:Mem W w (a ++ (k,cs,t) :: l) r) (hw:w'=w.setRow k cs'):Mem W w' (a ++ (k,cs',t) :: l) r:=by
 subst hw
 have hk:=h.cel (k,cs,t) (by simp)
 have hn:=h.nod
 refine ⟨fun x hx=>?_,by simpa using hn,fun x hx=>?_,fun x hx=>?_,fun y hy=>?_,h.row,below_setRow h.below (h.big (k,cs,t) (by simp)) _⟩
 ·by_cases e:x.1=k
  ·have hx2:x=(k,cs',t):=by
    rw [List.map_append,List.map_cons] at hn
    rcases List.mem_append.1 hx with hx | hx
    ·exfalso
     have:=(List.nodup_append.1 hn).2.2 x.1 (List.mem_map_of_mem hx) k (by simp)
     exact this e
    ·rcases List.mem_cons.1 hx with rfl | hx
     ·rfl
     ·exfalso
      have:=(List.nodup_cons.1 (List.nodup_append.1 hn).2.1).1
      exact this (List.mem_map.2 ⟨x,hx,e⟩)
   subst hx2
   exact setRow_heap w k cs cs' t (0,0) hk
  ·refine (setRow_other w k x.1 cs' e).trans (h.cel x ?_)
   rcases List.mem_append.1 hx with hx | hx
   ·exact List.mem_append_left _ hx
   ·rcases List.mem_cons.1 hx with rfl | hx
    ·exact absurd rfl e
    ·exact List.mem_append_right _ (List.mem_cons_of_mem _ hx)
 ·rcases List.mem_append.1 hx with hx | hx
  ·exact h.typ x (List.mem_append_left _ hx)
  ·rcases List.mem_cons.1 hx with rfl | hx
   ·exact h.typ (k,cs,t) (by simp)
   ·exact h.typ x (List.mem_append_right _ (List.mem_cons_of_mem _ hx))
 ·rcases List.mem_append.1 hx with hx | hx
  ·exact h.big x (List.mem_append_left _ hx)
  ·rcases List.mem_cons.1 hx with rfl | hx
   ·exact h.big (k,cs,t) (by simp)
   ·exact h.big x (List.mem_append_right _ (List.mem_cons_of_mem _ hx))
 ·have ht:=h.typ (k,cs,t) (by simp)
  have hr:=h.row y hy
  exact zb6 (h.own y hy) ((zan.refl w (fun g=>g=k)).setRow (.inl rfl) cs') (fun g' e1 e2=>zbE (h.own y hy) hk (fun e3=>absurd (show (t:Nat)<33 from (show y.1=t from e3) ▸ hr) (Nat.not_lt.2 ht)) (by rw [e1,e2]))
theorem Mem.g0 {W w:World} {k t:Nat} {cs:Array Value} {l:List (Nat × Array Value × Nat)} {r:List (Nat × Value × Nat × List Value)} (h:Mem W w ((k,cs,t) :: l) r):w.heap[k]?=some (.cells cs t (0,0)):=h.cel (k,cs,t) (by simp)
theorem Mem.b0 {W w:World} {k:Nat} {b:Bd} {l:List (Nat × Array Value × Nat)} {r:List (Nat × Value × Nat × List Value)} (h:Mem W w ((k,bdC b,35) :: l) r):Box w k b:=h.cel (k,bdC b,35) (by simp)
theorem Mem.p0 {W w w':World} {k t:Nat} {cs cs':Array Value} {l:List (Nat × Array Value × Nat)} {r:List (Nat × Value × Nat × List Value)} (h:Mem W w ((k,cs,t) :: l) r) (hw:w'=w.setRow k cs'):Mem W w' ((k,cs',t) :: l) r:=Mem.set (a:=[]) h hw
theorem Mem.g1 {W w:World} {x0:Nat × Array Value × Nat} {k t:Nat} {cs:Array Value} {l:List (Nat × Array Value × Nat)} {r:List (Nat × Value × Nat × List Value)} (h:Mem W w (x0 :: (k,cs,t) :: l) r):w.heap[k]?=some (.cells cs t (0,0)):=h.cel (k,cs,t) (by simp)
theorem Mem.b1 {W w:World} {x0:Nat × Array Value × Nat} {k:Nat} {b:Bd} {l:List (Nat × Array Value × Nat)} {r:List (Nat × Value × Nat × List Value)} (h:Mem W w (x0 :: (k,bdC b,35) :: l) r):Box w k b:=h.cel (k,bdC b,35) (by simp)
theorem Mem.p1 {W w w':World} {x0:Nat × Array Value × Nat} {k t:Nat} {cs cs':Array Value} {l:List (Nat × Array Value × Nat)} {r:List (Nat × Value × Nat × List Value)} (h:Mem W w (x0 :: (k,cs,t) :: l) r) (hw:w'=w.setRow k cs'):Mem W w' (x0 :: (k,cs',t) :: l) r:=Mem.set (a:=[x0]) h hw
theorem Mem.g2 {W w:World} {x0 x1:Nat × Array Value × Nat} {k t:Nat} {cs:Array Value} {l:List (Nat × Array Value × Nat)} {r:List (Nat × Value × Nat × List Value)} (h:Mem W w (x0 :: x1 :: (k,cs,t) :: l) r):w.heap[k]?=some (.cells cs t (0,0)):=h.cel (k,cs,t) (by simp)
theorem Mem.b2 {W w:World} {x0 x1:Nat × Array Value × Nat} {k:Nat} {b:Bd} {l:List (Nat × Array Value × Nat)} {r:List (Nat × Value × Nat × List Value)} (h:Mem W w (x0 :: x1 :: (k,bdC b,35) :: l) r):Box w k b:=h.cel (k,bdC b,35) (by simp)
theorem Mem.p2 {W w w':World} {x0 x1:Nat × Array Value × Nat} {k t:Nat} {cs cs':Array Value} {l:List (Nat × Array Value × Nat)} {r:List (Nat × Value × Nat × List Value)} (h:Mem W w (x0 :: x1 :: (k,cs,t) :: l) r) (hw:w'=w.setRow k cs'):Mem W w' (x0 :: x1 :: (k,cs',t) :: l) r:=Mem.set (a:=[x0,x1]) h hw
theorem Mem.g3 {W w:World} {x0 x1 x2:Nat × Array Value × Nat} {k t:Nat} {cs:Array Value} {l:List (Nat × Array Value × Nat)} {r:List (Nat × Value × Nat × List Value)} (h:Mem W w (x0 :: x1 :: x2 :: (k,cs,t) :: l) r):w.heap[k]?=some (.cells cs t (0,0)):=h.cel (k,cs,t) (by simp)
theorem Mem.g4 {W w:World} {x0 x1 x2 x3:Nat × Array Value × Nat} {k t:Nat} {cs:Array Value} {l:List (Nat × Array Value × Nat)} {r:List (Nat × Value × Nat × List Value)} (h:Mem W w (x0 :: x1 :: x2 :: x3 :: (k,cs,t) :: l) r):w.heap[k]?=some (.cells cs t (0,0)):=h.cel (k,cs,t) (by simp)
theorem Mem.b4 {W w:World} {x0 x1 x2 x3:Nat × Array Value × Nat} {k:Nat} {b:Bd} {l:List (Nat × Array Value × Nat)} {r:List (Nat × Value × Nat × List Value)} (h:Mem W w (x0 :: x1 :: x2 :: x3 :: (k,bdC b,35) :: l) r):Box w k b:=h.cel (k,bdC b,35) (by simp)
theorem Mem.b5 {W w:World} {x0 x1 x2 x3 x4:Nat × Array Value × Nat} {k:Nat} {b:Bd} {l:List (Nat × Array Value × Nat)} {r:List (Nat × Value × Nat × List Value)} (h:Mem W w (x0 :: x1 :: x2 :: x3 :: x4 :: (k,bdC b,35) :: l) r):Box w k b:=h.cel (k,bdC b,35) (by simp)
theorem Mem.p5 {W w w':World} {x0 x1 x2 x3 x4:Nat × Array Value × Nat} {k t:Nat} {cs cs':Array Value} {l:List (Nat × Array Value × Nat)} {r:List (Nat × Value × Nat × List Value)} (h:Mem W w (x0 :: x1 :: x2 :: x3 :: x4 :: (k,cs,t) :: l) r) (hw:w'=w.setRow k cs'):Mem W w' (x0 :: x1 :: x2 :: x3 :: x4 :: (k,cs',t) :: l) r:=Mem.set (a:=[x0,x1,x2,x3,x4]) h hw
theorem Mem.r0 {W w:World} {e n:Nat} {v:Value} {xs:List Value} {l:List (Nat × Array Value × Nat)} {r:List (Nat × Value × Nat × List Value)} (h:Mem W w l ((e,v,n,xs) :: r)):w.ownsRow W.heap.size e 1 v n xs:=h.own (e,v,n,xs) (by simp)
theorem Mem.r1 {W w:World} {y0:Nat × Value × Nat × List Value} {e n:Nat} {v:Value} {xs:List Value} {l:List (Nat × Array Value × Nat)} {r:List (Nat × Value × Nat × List Value)} (h:Mem W w l (y0 :: (e,v,n,xs) :: r)):w.ownsRow W.heap.size e 1 v n xs:=h.own (e,v,n,xs) (by simp)
theorem Mem.r2 {W w:World} {y0 y1:Nat × Value × Nat × List Value} {e n:Nat} {v:Value} {xs:List Value} {l:List (Nat × Array Value × Nat)} {r:List (Nat × Value × Nat × List Value)} (h:Mem W w l (y0 :: y1 :: (e,v,n,xs) :: r)):w.ownsRow W.heap.size e 1 v n xs:=h.own (e,v,n,xs) (by simp)
def outS (v:Int):ByteArray:=⟨#[UInt8.ofNat v.toNat]⟩
def stF (b:Bd) (F:List ByteArray) (t s v:Int):Bd × List ByteArray × Int × ByteArray × Bool :=
 if t=33554432∧s=4 then ({ b with msip:=bits .and .u64 v 1==1 },F,0,⟨#[]⟩,true) else
 if t=33570816∧s=8 then ({ b with cmp:=v },F,0,⟨#[]⟩,true) else
 if t=268435456∧s=1 then (b,F,1,outS v,true) else
 if t=268435457∧s=1 then ({ b with ier:=bits .and .u64 v 1==1 },F,0,⟨#[]⟩,true) else
 if t=268439552∧s=8 then ({ b with sector:=v },F,0,⟨#[]⟩,true) else
 if t=268439560∧s=8 then ({ b with addr:=v },F,0,⟨#[]⟩,true) else
 if t=268439568∧s=8 then (b,F,ordV v 2 3,⟨#[]⟩,true) else
 if t=268443656∧s=8 then ({ b with nicA:=v },F,0,⟨#[]⟩,true) else
 if t=268443664∧s=8 then (b,F,ordV v 4 5,⟨#[]⟩,true) else
 if t=268443672∧s=8 then ({ b with nicL:=v },F,0,⟨#[]⟩,true) else
 (bdZ,[],0,⟨#[]⟩,false)
theorem zbW (b:Bd) (F:List ByteArray) (t s v:Int) (h:¬ (t=33554432∧s=4)∧¬ (t=33570816∧s=8)∧¬ (t=268435456∧s=1)∧¬ (t=268435457∧s=1)∧¬ (t=268439552∧s=8)∧¬ (t=268439560∧s=8)∧¬ (t=268439568∧s=8)∧¬ (t=268443656∧s=8)∧¬ (t=268443664∧s=8)∧¬ (t=268443672∧s=8)):stF b F t s v=(bdZ,[],0,⟨#[]⟩,false):=by
 obtain ⟨h0,h1,h3,h4,h6,h7,h8,h11,h12,h13⟩:=h
 unfold stF
 rw [if_neg h0,if_neg h1,if_neg h3,if_neg h4,if_neg h6,if_neg h7,if_neg h8,if_neg h11,if_neg h12,if_neg h13]
def EBox (w:World) (g:Nat) (k:Int) (s:ByteArray):Prop:=w.heap[g]?=some (.cells #[.int .i64 k,.string s] 191 (0,0))
abbrev effV (k:Int) (s:ByteArray):Value:=.agg #[.int .i64 k,.string s]
theorem EBox.lt {w:World} {g:Nat} {k:Int} {s:ByteArray} (h:EBox w g k s):g<w.heap.size:=(Array.getElem?_eq_some_iff.1 h).1
theorem EBox.next {w w':World} {g:Nat} {k:Int} {s:ByteArray} (h:EBox w g k s) (j:Below w.heap.size w w'):EBox w' g k s:=(j.block g h.lt).trans h
theorem EBox.over {w:World} {g x:Nat} {k:Int} {s:ByteArray} (h:EBox w g k s) (hg:g≠x) (cs:Array Value):EBox (w.setRow x cs) g k s:=(setRow_other w x g cs hg).trans h
theorem EBox.mine {w:World} {g:Nat} {k:Int} {s:ByteArray} (h:EBox w g k s) (k':Int) (s':ByteArray):EBox (w.setRow g #[.int .i64 k',.string s']) g k' s':=setRow_heap w g _ _ 191 (0,0) h
theorem EBox.load {w:World} {g:Nat} {k:Int} {s:ByteArray} (h:EBox w g k s):(Instr.loadAt 191 (.pointer (some ⟨g,0,none⟩))).run Tryz.prog w=.ok (effV k s) w:=by
 simp only [Instr.loadAt,Instr.sureAddr,Sem.run_bind,Sem.run_pure,Result.andThen]
 exact run_loadVar_row w g 191 191 _ (0,0) _ h Tryz.underlying191 rfl (by rw [zgJ];rfl)
theorem EBox.result {w:World} {g:Nat} {k:Int} {s:ByteArray} (h:EBox w g k s):(loadVar 191 ⟨g,0,none⟩).run Tryz.prog w=.ok (effV k s) w :=
 run_loadVar_row w g 191 191 _ (0,0) _ h Tryz.underlying191 rfl (by rw [zgJ];rfl)
theorem EBox.store {w:World} {g:Nat} {k:Int} {s:ByteArray} (h:EBox w g k s) (k':Int) (s':ByteArray):(Instr.storeAt 191 (.pointer (some ⟨g,0,none⟩)) (effV k' s')).run Tryz.prog w=.ok () (w.setRow g #[.int .i64 k',.string s']):=by
 simp only [Instr.storeAt,Instr.sureAddr,Sem.run_bind,Sem.run_pure,Result.andThen]
 exact run_storeVar_row w g 191 191 _ _ h (by rw [zgJ];rfl) rfl (by simp [Value.oneCell'])
theorem EBox.store_kind {w:World} {g:Nat} {k:Int} {s:ByteArray} (h:EBox w g k s) (k':Int):(Instr.storeAt 3 (.pointer (some ⟨g,0,none⟩)) (.int .i64 k')).run Tryz.prog w=.ok () (w.setRow g #[.int .i64 k',.string s]) :=
 zbL w g 0 3 191 #[.int .i64 k,.string s] _ h zhd (by simp) rfl rfl
theorem EBox.w_all {w:World} {g:Nat} {k k':Int} {s s':ByteArray} (h:EBox w g k s) {ops:Array Oper} {rest:List Oper} {o:Oper} {a:Act} {Q:Exit→Act→World→Prop} (hgd:o.guard=none) {p x:Operand} (ho:o.op=.store 191 p x) (hp:a.eval p=.pointer (some ⟨g,0,none⟩)) (hx:a.eval x=effV k' s')
  (hh:∀ wy,wy=w.setRow g #[.int .i64 k',.string s']→wpList Tryz.prog ops Q rest (a.put o.dst undef) wy):wpList Tryz.prog ops Q (o :: rest) a w :=
 zam hgd ho (h.store k' s') hp hx (hh _ rfl)
theorem EBox.w_kind {w:World} {g:Nat} {k k':Int} {s:ByteArray} (h:EBox w g k s) {ops:Array Oper} {rest:List Oper} {o:Oper} {a:Act} {Q:Exit→Act→World→Prop} (hgd:o.guard=none) {p x:Operand} (ho:o.op=.store 3 p x) (hp:a.eval p=.pointer (some ⟨g,0,none⟩)) (hx:a.eval x=.int .i64 k')
  (hh:∀ wy,wy=w.setRow g #[.int .i64 k',.string s]→wpList Tryz.prog ops Q rest (a.put o.dst undef) wy):wpList Tryz.prog ops Q (o :: rest) a w :=
 zam hgd ho (h.store_kind k') hp hx (hh _ rfl)
abbrev effO:Obj:=.cells #[.int .i64 0,.string ⟨#[]⟩] 191
theorem EBox.new (w:World):EBox (w.alloc effO) w.heap.size 0 ⟨#[]⟩:=heap_alloc_last w _
structure KS (W wx:World) (b r:Bd) (k:Int) (s:ByteArray):Prop where
 own:Box wx W.heap.size b
 res:Box wx (W.heap.size+1) r
 eff:EBox wx (W.heap.size+2) k s
 below:Below W.heap.size W wx
theorem KS.new (W:World) (b:Bd):KS W (((W.alloc (bdO b)).alloc zak).alloc effO) b bdZ 0 ⟨#[]⟩:=by
 have k:=KA.new W b
 have e:=EBox.new ((W.alloc (bdO b)).alloc zak)
 rw [World.size_alloc,World.size_alloc] at e
 exact ⟨k.own.alloc _,k.res.alloc _,e,k.below.alloc (by simp;omega) _⟩
theorem KS.next {W w w':World} {b r:Bd} {k:Int} {s:ByteArray} (h:KS W w b r k s) (j:Below w.heap.size w w'):KS W w' b r k s:=⟨h.own.next j,h.res.next j,h.eff.next j,zad h.below j⟩
theorem KS.put {W w w':World} {b b' r:Bd} {k:Int} {s:ByteArray} (h:KS W w b r k s) (hw:w'=w.setRow W.heap.size (bdC b')):KS W w' b' r k s:=by
 subst hw
 exact ⟨Box.mine h.own b',h.res.over (by omega) _,h.eff.over (by omega) _,below_setRow h.below (Nat.le_refl _) _⟩
theorem KS.tell {W w w':World} {b r r':Bd} {k:Int} {s:ByteArray} (h:KS W w b r k s) (hw:w'=w.setRow (W.heap.size+1) (bdC r')):KS W w' b r' k s:=by
 subst hw
 exact ⟨h.own.over (by omega) _,Box.mine h.res r',h.eff.over (by omega) _,below_setRow h.below (by omega) _⟩
theorem KS.give {W w w':World} {b r:Bd} {k k':Int} {s s':ByteArray} (h:KS W w b r k s) (hw:w'=w.setRow (W.heap.size+2) #[.int .i64 k',.string s']):KS W w' b r k' s':=by
 subst hw
 exact ⟨h.own.over (by omega) _,h.res.over (by omega) _,h.eff.mine k' s',below_setRow h.below (by omega) _⟩
theorem KS.far {W w w':World} {b r:Bd} {k:Int} {s:ByteArray} {z:Nat} {cs:Array Value} (h:KS W w b r k s) (hz:W.heap.size+2<z) (hw:w'=w.setRow z cs):KS W w' b r k s:=by
 subst hw
 exact ⟨h.own.over (by omega) _,h.res.over (by omega) _,h.eff.over (by omega) _,below_setRow h.below (by omega) _⟩
theorem KS.size {W w:World} {b r:Bd} {k:Int} {s:ByteArray} (h:KS W w b r k s):W.heap.size+2<w.heap.size:=h.eff.lt
theorem zct {fn:Func} {p u x:Tmp} (h:fn.results=#[.cell p 35,.cell u 191,.tmp x]) (tmps:Array Value) (w:World) (g e:Nat) (k:Bd) (i:Int) (s:ByteArray) (y:Value) (hp:tmps.getD p undef=.pointer (some ⟨g,0,none⟩)) (hg:Box w g k) (hu:tmps.getD u undef=.pointer (some ⟨e,0,none⟩)) (he:EBox w e i s) (hy:tmps.getD x undef=y) :
  (results fn tmps).run Tryz.prog w=.ok (.tuple #[bdV k,effV i s,y]) w:=by
 have hp':tmps[p]?.getD undef=.pointer (some ⟨g,0,none⟩):=by simpa using hp
 have hu':tmps[u]?.getD undef=.pointer (some ⟨e,0,none⟩):=by simpa using hu
 have hy':tmps[x]?.getD undef=y:=by simpa using hy
 simp [results,h,hp',hu',hy',asAddr,Box.result hg,EBox.result he]
theorem OwnF.eput {w w':World} {B g:Nat} {v:Value} {F:List ByteArray} {k:Int} {s:ByteArray} {cs:Array Value} (h:OwnF w B v F) (e:EBox w g k s) (hw:w'=w.setRow g cs):OwnF w' B v F:=by
 subst hw
 exact zb6 h ((zan.refl w (fun k=>k=g)).setRow (.inl rfl) cs) (fun g' e1 e2=>zbE h e (by decide) (by rw [e1,e2]))
theorem Mem.newZ {W w:World} {l:List (Nat × Array Value × Nat)} {r:List (Nat × Value × Nat × List Value)} (h:Mem W w l r):Mem W (w.alloc zak) ((w.heap.size,bdC bdZ,35) :: l) r:=h.new (bdC bdZ) 35 (by decide)
theorem Mem.newE {W w:World} {l:List (Nat × Array Value × Nat)} {r:List (Nat × Value × Nat × List Value)} (h:Mem W w l r):Mem W (w.alloc effO) ((w.heap.size,#[.int .i64 0,.string ⟨#[]⟩],191) :: l) r:=h.new _ 191 (by decide)
theorem Mem.newZE {W w:World} {l:List (Nat × Array Value × Nat)} {r:List (Nat × Value × Nat × List Value)} (h:Mem W w l r):Mem W ((w.alloc zak).alloc effO) ((w.heap.size+1,#[.int .i64 0,.string ⟨#[]⟩],191) :: (w.heap.size,bdC bdZ,35) :: l) r:=by
 have k:=h.newZ.newE
 rwa [World.size_alloc] at k
structure Near (w:World) where
 wx:World
 near:Below w.heap.size w wx
theorem zbF {P:Program} {id:Nat} {Q:Exit→Act→World→Prop} {a:Act} {w:World} {l:List Oper} (hm:P.follows .mixedOrders=true) (hB:Region.lexB .any l.toArray=true)
  (h:wpQuiet P l.toArray (fun w'=>∃ p:Near w,w'=p.wx) (fun a'=>∀ w',(∃ p:Near w,w'=p.wx)→Q .normal a' w') l a):(Code.region id l.toArray true).wp P Q a w :=
 wp_region_quiet (C:=fun w'=>∃ p:Near w,w'=p.wx) hm hB ⟨⟨w.drew,(Below.refl _ _).drew⟩,rfl⟩ (by simpa using h)
theorem zaV {P:Program} {f:FuncId} {args:Array Value} {w:World} {p:Near w} {v:Value} (h:Calls P f args p.wx fun e w'=>e=.returned v∧Below p.wx.heap.size p.wx w') :
  Calls P f args p.wx fun e w''=>e=.returned v∧∃ p:Near w,w''=p.wx :=
 h.mono fun _ _ ⟨he,hb⟩=>⟨he,⟨_,zad p.near hb⟩,rfl⟩
theorem zbn {P:Program} {a:Act} {C:World→Prop} {o:Oper} {K:Act→Prop} (r:Value) (hrun:∀ w,C w→(execOp a.eval o).run P w=.ok (.value r) w) (hk:K (a.put o.dst r)):o.quiet P a C K :=
 ⟨r,fun w hw=>by unfold Oper.quietAt;rw [hrun w hw];exact ⟨rfl,rfl⟩,hk⟩
theorem zbV {w:World} {g:Nat} {b:Bd} (k:Box w g b) (w':World) (hw:∃ p:Near w,w'=p.wx):(Instr.loadAt 35 (.pointer (some ⟨g,0,none⟩))).run Tryz.prog w'=.ok (bdV b) w':=by
 obtain ⟨p,rfl⟩:=hw
 exact (k.next p.near).load
end Go.Proofs.YtmjjpgaeboaamaaGreatDoor
namespace Go
theorem zqg {P:Program} {md:Region.Mode} {ops:Array Oper} {Q:Exit→Act→World→Prop} {S:World→Prop} {fuel:Nat} {listed:Array Bool} {a:Act} {w:World} {i:Nat} {o:Oper} {f:FuncId} {args:Array Value} {R:Value→World→Prop}
  (hr:Region.ready md ops listed=[i]) (hi:ops[i]?=some o) (hgd:Region.wanted o (yielded ops a.tmps)=true) (hrun:(execOp a.eval o).run P w=.ok (.enter f args) w) (hc:Calls P f args w fun e w'=>∃ v,e=.returned v∧R v w')
  (h:∀ v w',R v w'→S w'∧(S w'→wpAnyH P md ops Q S fuel (listed.setIfInBounds i true) (a.put o.dst v) w')):wpAnyH P md ops Q S (fuel+1) listed a w:=by
 refine wpAnyH_ready (rs:=[i]) hr (by simp) (AllReadyH.cons hi (fun K hK=>?_) AllReadyH.nil)
 rw [if_pos hgd]
 unfold Oper.wp
 rw [hrun,Oper.upon_enter]
 refine hc.mono ?_
 rintro e w' ⟨v,rfl,hR⟩
 obtain ⟨h1,h2⟩:=h v w' hR
 exact hK.out _ _ h1 h2
end Go
namespace Go
theorem zhR {P:Program} {md:Region.Mode} {ops:Array Oper} {Q:Exit→Act→World→Prop} {S:World→Prop} {fuel:Nat} {listed:Array Bool} {a:Act} {w w':World} {i:Nat} {o:Oper} {v:Value} {rs:List Nat}
  (hi:ops[i]?=some o) (hgd:o.guard=none) (hrun:(execOp a.eval o).run P w=.ok (.value v) w') (hS:S w')
  (h:wpAnyH P md ops Q S fuel (listed.setIfInBounds i true) (a.put o.dst v) w') (hs:AllReadyH P md ops Q S fuel listed a w rs):AllReadyH P md ops Q S fuel listed a w (i :: rs):=by
 refine AllReadyH.cons hi (fun K hK=>?_) hs
 simp only [Region.wanted,hgd,if_true]
 unfold Oper.wp
 rw [hrun]
 exact hK.out _ _ hS (fun _=>h)
theorem zok {P:Program} {md:Region.Mode} {ops:Array Oper} {Q:Exit→Act→World→Prop} {S:World→Prop} {fuel:Nat} {listed:Array Bool} {a:Act} {w:World} {i:Nat} {o:Oper} {f:FuncId} {args:Array Value} {R:Value→World→Prop} {rs:List Nat}
  (hi:ops[i]?=some o) (hgd:Region.wanted o (yielded ops a.tmps)=true) (hrun:(execOp a.eval o).run P w=.ok (.enter f args) w) (hc:Calls P f args w fun e w'=>∃ v,e=.returned v∧R v w')
  (h:∀ v w',R v w'→S w'∧(S w'→wpAnyH P md ops Q S fuel (listed.setIfInBounds i true) (a.put o.dst v) w')) (hs:AllReadyH P md ops Q S fuel listed a w rs):AllReadyH P md ops Q S fuel listed a w (i :: rs):=by
 refine AllReadyH.cons hi (fun K hK=>?_) hs
 rw [if_pos hgd]
 unfold Oper.wp
 rw [hrun,Oper.upon_enter]
 refine hc.mono ?_
 rintro e w' ⟨v,rfl,hR⟩
 obtain ⟨h1,h2⟩:=h v w' hR
 exact hK.out _ _ h1 h2
end Go
namespace Go.Proofs.YtmjjpgaeboaamaaGreatDoor
open Go.RowKit Go.Deep Go.Joins
theorem zgB {f:FuncId} {args:Array Value} {w:World} {b:Bd} {F:List ByteArray} (h:Calls Tryz.prog f args w (zhh w b F)):Calls Tryz.prog f args w fun e w'=>∃ u,e=.returned u∧(∃ p c,u=bdV (b.at p F.length c)∧OwnF w' w.heap.size (.slice p F.length c) F∧Below w.heap.size w w') :=
 h.mono fun _ _ ⟨p,c,he,ho,hb⟩=>⟨_,he,p,c,rfl,ho,hb⟩
end Go.Proofs.YtmjjpgaeboaamaaGreatDoor
namespace Go
open Go.RowKit Go.Deep Go.Joins
theorem puts:(∀ (t:List Value) (d:List Deferred) (k:Nat) (v:Value),(Act.mk t.toArray d).put (some k) v=Act.mk (t.set k v).toArray d)∧(∀ (a:Act) (v:Value),a.put none v=a)∧(∀ (a v:Value) (l:List Value),(a :: l).set 0 v=v :: l)∧(∀ (a v:Value) (l:List Value) (n:Nat),(a :: l).set (n+1) v=a :: l.set n v) :=
 ⟨fun _ _ _ _=>by simp [Act.put],fun _ _=>rfl,fun _ _ _=>rfl,fun _ _ _ _=>rfl⟩
theorem nths:(∀ (l:List Oper) (i:Nat),(l.toArray)[i]?=l[i]?)∧(∀ (a:Oper) (l:List Oper),(a :: l)[0]?=some a)∧(∀ (a:Oper) (l:List Oper) (n:Nat),(a :: l)[n+1]?=l[n]?):=⟨fun _ _=>by simp,fun _ _=>by simp,fun _ _ _=>by simp⟩
theorem zbG {P:Program} {f:FuncId} {args:Array Value} {w:World} {v:Value} (h:Calls P f args w fun e w'=>e=.returned v∧RowKit.Below w.heap.size w w'):Calls P f args w fun e w'=>∃ u,e=.returned u∧(u=v∧RowKit.Below w.heap.size w w'):=h.mono fun _ _ h=>⟨v,h.1,rfl,h.2⟩
section
variable {P : Program} {md : Region.Mode} {ops : Array Oper} {Q : Exit → Act → World → Prop} {S : World → Prop} {fuel : Nat} {listed : Array Bool} {a a' : Act} {w w' : World} {o : Oper} {v : Value} {t : TypeId} {p x : Operand} {u : Value} {f : FuncId} {args : Array Value} {R : Value → World → Prop}
theorem tk (i:Nat) (hS:S w) (h:wpAnyH P md ops Q S fuel (listed.setIfInBounds i true) a' w) (hi:ops[i]?=some o:=by (simp only [nths];exact rfl))
  (hs:Region.noSelect ops=true:=by kernel_rfl) (hf:Region.free md ops listed i=true:=by kernel_rfl) (hr:(Region.ready md ops listed).contains i=true:=by kernel_rfl)
  (hQ:∀ c a w,Q (.panic c) (a.put o.dst v) w→Q (.panic c) a w:=by exact fun _ _ _ h=>h)
  (hy:YieldsIf P ops S o v a:=by first | exact Or.inr ⟨by rfl,rfl⟩ | (refine Or.inl ⟨by rfl,?_⟩;intro w hSw;(try dsimp only at hSw);(try obtain ⟨_,_⟩:=hSw);go_simp;try with_reducible rfl))
  (ha:a.put o.dst v=a':=by (simp only [puts];exact rfl)):wpAnyH P md ops Q S (fuel+1) listed a w:=by
 subst ha
 exact wpAnyH_take hi hs hf hr hQ hy hS h
theorem tl (i:Nat) (hS:S w) (hl:∀ w,S w→(Instr.loadAt t u).run P w=.ok v w) (h:wpAnyH P md ops Q S fuel (listed.setIfInBounds i true) a' w) (hi:ops[i]?=some o:=by (simp only [nths];exact rfl)) (ho:o.op=.load t p:=by rfl) (hp:a.eval p=u:=by rfl)
  (hs:Region.noSelect ops=true:=by kernel_rfl) (hf:Region.free md ops listed i=true:=by kernel_rfl) (hr:(Region.ready md ops listed).contains i=true:=by kernel_rfl)
  (hQ:∀ c a w,Q (.panic c) (a.put o.dst v) w→Q (.panic c) a w:=by exact fun _ _ _ h=>h)
  (hg:Region.wanted o (yielded ops a.tmps)=true:=by kernel_rfl)
  (ha:a.put o.dst v=a':=by (simp only [puts];exact rfl)):wpAnyH P md ops Q S (fuel+1) listed a w:=by
 subst ha
 exact wpAnyH_take hi hs hf hr hQ (.inl ⟨hg,fun w hw=>za6 ho (hl w hw) hp⟩) hS h
theorem hl (i:Nat) (hl:(Instr.loadAt t u).run P w=.ok v w) (hS:S w) (h:wpAnyH P md ops Q S fuel (listed.setIfInBounds i true) a' w) (hi:ops[i]?=some o:=by (simp only [nths];exact rfl)) (ho:o.op=.load t p:=by rfl) (hp:a.eval p=u:=by rfl)
  (hr:Region.ready md ops listed=[i]:=by kernel_rfl) (hg:Region.wanted o (yielded ops a.tmps)=true:=by kernel_rfl) (ha:a.put o.dst v=a':=by (simp only [puts];exact rfl)):wpAnyH P md ops Q S (fuel+1) listed a w:=by
 subst ha
 refine wpAnyH_ready (rs:=[i]) hr (by simp) (AllReadyH.cons hi (fun K hK=>?_) AllReadyH.nil)
 rw [if_pos hg]
 unfold Oper.wp
 rw [za6 ho hl hp]
 exact hK.out _ _ hS (fun _=>h)
theorem hs (i:Nat) (hrun:(Instr.storeAt t u v).run P w=.ok () w') (h:∀ wy,wy=w'→S wy∧(S wy→wpAnyH P md ops Q S fuel (listed.setIfInBounds i true) a' wy)) (hi:ops[i]?=some o:=by (simp only [nths];exact rfl)) (ho:o.op=.store t p x:=by rfl) (hp:a.eval p=u:=by rfl) (hx:a.eval x=v:=by rfl)
  (hr:Region.ready md ops listed=[i]:=by kernel_rfl) (hg:o.guard=none:=by rfl) (ha:a.put o.dst undef=a':=by (simp only [puts];exact rfl)):wpAnyH P md ops Q S (fuel+1) listed a w:=by
 subst ha
 exact zbZ hr hi hg ho hp hx hrun (h w' rfl).1 ((h w' rfl).2 (h w' rfl).1)
theorem hc (i:Nat) (hc:Calls P f args w fun e w'=>∃ v,e=.returned v∧R v w') (h:∀ v w',R v w'→S w'∧(S w'→wpAnyH P md ops Q S fuel (listed.setIfInBounds i true) (a.put o.dst v) w'))
  (hi:ops[i]?=some o:=by (simp only [nths];exact rfl)) (hrun:(execOp a.eval o).run P w=.ok (.enter f args) w:=by (go_simp;try exact rfl)) (hr:Region.ready md ops listed=[i]:=by kernel_rfl) (hg:Region.wanted o (yielded ops a.tmps)=true:=by kernel_rfl):wpAnyH P md ops Q S (fuel+1) listed a w :=
 zqg hr hi hg hrun hc h
theorem ho (i:Nat) (hS:S w') (h:wpAnyH P md ops Q S fuel (listed.setIfInBounds i true) a' w') (hi:ops[i]?=some o:=by (simp only [nths];exact rfl)) (hr:Region.ready md ops listed=[i]:=by kernel_rfl) (hg:o.guard=none:=by rfl) (hrun:(execOp a.eval o).run P w=.ok (.value v) w':=by (go_simp;try exact rfl))
  (ha:a.put o.dst v=a':=by (simp only [puts];exact rfl)):wpAnyH P md ops Q S (fuel+1) listed a w:=by
 subst ha
 exact ztc hr hi hg hrun hS h
theorem two (i j:Nat) (h1:AllReadyH P md ops Q S fuel listed a w [i,j]) (hr:Region.ready md ops listed=[i,j]:=by kernel_rfl):wpAnyH P md ops Q S (fuel+1) listed a w:=wpAnyH_ready hr (by simp) h1
theorem zp7 (i j l:Nat) (h1:AllReadyH P md ops Q S fuel listed a w [i,j,l]) (hr:Region.ready md ops listed=[i,j,l]:=by kernel_rfl):wpAnyH P md ops Q S (fuel+1) listed a w:=wpAnyH_ready hr (by simp) h1
theorem al {rs:List Nat} (i:Nat) (hS:S w') (h:wpAnyH P md ops Q S fuel (listed.setIfInBounds i true) a' w') (hs:AllReadyH P md ops Q S fuel listed a w rs) (hi:ops[i]?=some o:=by (simp only [nths];exact rfl)) (hg:o.guard=none:=by rfl) (hrun:(execOp a.eval o).run P w=.ok (.value v) w':=by (go_simp;try exact rfl))
  (ha:a.put o.dst v=a':=by (simp only [puts];exact rfl)):AllReadyH P md ops Q S fuel listed a w (i :: rs):=by
 subst ha
 exact zhR hi hg hrun hS h hs
theorem ld {rs:List Nat} (i:Nat) (hl:(Instr.loadAt t u).run P w=.ok v w) (hS:S w) (h:wpAnyH P md ops Q S fuel (listed.setIfInBounds i true) a' w) (hs:AllReadyH P md ops Q S fuel listed a w rs) (hi:ops[i]?=some o:=by (simp only [nths];exact rfl)) (ho:o.op=.load t p:=by rfl) (hp:a.eval p=u:=by rfl) (hg:o.guard=none:=by rfl)
  (ha:a.put o.dst v=a':=by (simp only [puts];exact rfl)):AllReadyH P md ops Q S fuel listed a w (i :: rs):=by
 subst ha
 exact zhR hi hg (za6 ho hl hp) hS h hs
theorem cc {rs:List Nat} (i:Nat) (hc:Calls P f args w fun e w'=>∃ v,e=.returned v∧R v w') (h:∀ v w',R v w'→S w'∧(S w'→wpAnyH P md ops Q S fuel (listed.setIfInBounds i true) (a.put o.dst v) w')) (hs:AllReadyH P md ops Q S fuel listed a w rs)
  (hi:ops[i]?=some o:=by (simp only [nths];exact rfl)) (hrun:(execOp a.eval o).run P w=.ok (.enter f args) w:=by (go_simp;try exact rfl)) (hg:Region.wanted o (yielded ops a.tmps)=true:=by kernel_rfl):AllReadyH P md ops Q S fuel listed a w (i :: rs) :=
 zok hi hg hrun hc h hs
theorem dr {id:Nat} (S:World→Prop) (h:∀ wz,Below w.heap.size w wz→wpAnyH P .any ops Q S ops.size (Array.replicate ops.size false) a wz) (hm:P.follows .mixedOrders=true:=by kernel_rfl):(Code.region id ops true).wp P Q a w :=
 wp_region_held hm (h w.drew (Below.refl _ _).drew)
end
end Go
