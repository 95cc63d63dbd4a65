/- MachineOn, part 3. -/
import Derived.BigQuiet
import Derived.StillTailTactics
import Derived.Test.YtplcfdnfeclpmaaGreatDoorV02
set_option maxHeartbeats 4000000
set_option maxRecDepth 100000
open Go.Lib (hid)
open Go Go.RowKit Go.Deep Go.Joins Go.Proofs.Tryz
namespace Go.Proofs.YtplcfdnfeclpmaaGreatDoor
def zjS (W:World) (b:Bd) (F:List ByteArray) (e:Ending) (W':World):Prop :=
 ∃ p c,e=.returned (bdV (b.at p F.length c))∧OwnF W' W.heap.size (.slice p F.length c) F∧Below W.heap.size W W'
theorem OwnF.base {w:World} {B B':Nat} {v:Value} {F:List ByteArray} (h:OwnF w B v F) (hB:B'≤B):OwnF w B' v F:=zdD h hB
theorem OwnF.over {w:World} {B g:Nat} {v:Value} {F:List ByteArray} {b:Bd} (h:OwnF w B v F) (k:Box w g b) (cs:Array Value):OwnF (w.setRow g cs) B v F :=
 zc1 h ((zau.refl w (fun k=>k=g)).setRow (.inl rfl) cs) (fun g' e e2=>h.not_box k (by rw [e,e2]))
theorem OwnF.put {w w':World} {B g:Nat} {v:Value} {F:List ByteArray} {b:Bd} {cs:Array Value} (h:OwnF w B v F) (k:Box w g b) (hw:w'=w.setRow g cs):OwnF w' B v F:=by
 subst hw;exact h.over k cs
theorem za6 (b:Bd) (F:List ByteArray) (W:World) (hf:FAt W (.slice b.fp b.fn b.fc) F) (hF:F.length≤8796093022208) :
  Calls Tryz.prog 57 #[bdV b] W (zjS W b F):=by
 go_enter func57,ntmps57;go_upto_region 1 with (fail);have X:=hid (KA.new W b);generalize (W.alloc (bdO b)).alloc zaj=wx at X ⊢;obtain ⟨p,cap,w2,hrun,ho,hb⟩:=zrR wx 28 _ _ _ F (hf.next X.out.below) hF;have HR:=hid hrun;have X2:=hid (X.out.next hb);have HO:=hid (show OwnF w2 W.heap.size _ _ from ho.base X.out.below.size);clear hrun ho hb;go_wp2_with (first | (with_reducible refine zaa rfl rfl (Box.load_fr X.out.own) rfl ?_) | (at_builtin;(refine zik rfl _ _ 28 rfl _ _ _ rfl rfl _ HR.out ?_)) | (with_reducible refine Box.w_fr X2.out.own rfl rfl rfl rfl ?_;intro wy hwy;have X3:=hid (X2.out.put hwy);have HO3:=hid (HO.out.put X2.out.own hwy);clear hwy) | (with_reducible refine zaa rfl rfl (Box.load X3.out.own) rfl ?_) | (with_reducible refine zaB X3.out.res rfl rfl rfl rfl ?_;intro wz hwz;have X4:=hid (X3.out.tell hwz);have HO4:=hid (HO3.out.put X3.out.res hwz);clear hwz));exact bodyPost_ret (v:=bdV (b.at p F.length cap)) (results_cell_row results57 _ _ (W.heap.size+1) 35 (bdC (b.at p F.length cap)) (0,0) _ rfl X4.out.res underlying35 rfl (by rw [zeK,zaN])) rfl ⟨p,cap,rfl,HO4.out,X4.out.below⟩
def bV (s:Bool) (k:Nat):Int:=if s=true then 2 ^ k else 0
theorem zgy (s:Bool) (W:World):TW 64 #[.bool s,.int .i64 0] W (.int .u64 (bV s 0)):=by
 cases s
 all_goals
  go_enter func64,ntmps64;go_wp2_with fail;go_ret;exact ⟨rfl,rfl⟩
theorem zhB (s:Bool) (W:World):TW 64 #[.bool s,.int .i64 1] W (.int .u64 (bV s 1)):=by
 cases s
 all_goals
  go_enter func64,ntmps64;go_wp2_with fail;go_ret;exact ⟨rfl,rfl⟩
theorem zgY (s:Bool) (W:World):TW 64 #[.bool s,.int .i64 2] W (.int .u64 (bV s 2)):=by
 cases s
 all_goals
  go_enter func64,ntmps64;go_wp2_with fail;go_ret;exact ⟨rfl,rfl⟩
theorem zhE (s:Bool) (W:World):TW 64 #[.bool s,.int .i64 3] W (.int .u64 (bV s 3)):=by
 cases s
 all_goals
  go_enter func64,ntmps64;go_wp2_with fail;go_ret;exact ⟨rfl,rfl⟩
theorem zns (s:Bool) (W:World):TW 64 #[.bool s,.int .i64 7] W (.int .u64 (bV s 7)):=by
 cases s
 all_goals
  go_enter func64,ntmps64;go_wp2_with fail;go_ret;exact ⟨rfl,rfl⟩
theorem zhh (W:World):TW 198 #[.int .u64 33554432] W (.int .i64 4):=by
 go_enter func198,ntmps198;go_wp2_with fail;go_ret;exact ⟨rfl,rfl⟩
theorem zgD (W:World):TW 198 #[.int .u64 33570816] W (.int .i64 8):=by
 go_enter func198,ntmps198;go_wp2_with fail;go_ret;exact ⟨rfl,rfl⟩
theorem zgu (W:World):TW 198 #[.int .u64 33603576] W (.int .i64 8):=by
 go_enter func198,ntmps198;go_wp2_with fail;go_ret;exact ⟨rfl,rfl⟩
theorem zfQ (W:World):TW 198 #[.int .u64 268435456] W (.int .i64 1):=by
 go_enter func198,ntmps198;go_wp2_with fail;go_ret;exact ⟨rfl,rfl⟩
theorem zgK (W:World):TW 198 #[.int .u64 268435457] W (.int .i64 1):=by
 go_enter func198,ntmps198;go_wp2_with fail;go_ret;exact ⟨rfl,rfl⟩
theorem zg3 (W:World):TW 198 #[.int .u64 268435461] W (.int .i64 1):=by
 go_enter func198,ntmps198;go_wp2_with fail;go_ret;exact ⟨rfl,rfl⟩
theorem zgW (W:World):TW 198 #[.int .u64 268439552] W (.int .i64 8):=by
 go_enter func198,ntmps198;go_wp2_with fail;go_ret;exact ⟨rfl,rfl⟩
theorem zgs (W:World):TW 198 #[.int .u64 268439560] W (.int .i64 8):=by
 go_enter func198,ntmps198;go_wp2_with fail;go_ret;exact ⟨rfl,rfl⟩
theorem zgA (W:World):TW 198 #[.int .u64 268439568] W (.int .i64 8):=by
 go_enter func198,ntmps198;go_wp2_with fail;go_ret;exact ⟨rfl,rfl⟩
theorem zg4 (W:World):TW 198 #[.int .u64 268439576] W (.int .i64 8):=by
 go_enter func198,ntmps198;go_wp2_with fail;go_ret;exact ⟨rfl,rfl⟩
theorem ze9 (W:World):TW 198 #[.int .u64 268443648] W (.int .i64 8):=by
 go_enter func198,ntmps198;go_wp2_with fail;go_ret;exact ⟨rfl,rfl⟩
theorem zgI (W:World):TW 198 #[.int .u64 268443656] W (.int .i64 8):=by
 go_enter func198,ntmps198;go_wp2_with fail;go_ret;exact ⟨rfl,rfl⟩
theorem zgP (W:World):TW 198 #[.int .u64 268443664] W (.int .i64 8):=by
 go_enter func198,ntmps198;go_wp2_with fail;go_ret;exact ⟨rfl,rfl⟩
theorem zgo (W:World):TW 198 #[.int .u64 268443672] W (.int .i64 8):=by
 go_enter func198,ntmps198;go_wp2_with fail;go_ret;exact ⟨rfl,rfl⟩
def zdv (t:Int):Prop:=(t==33554432)=false∧(t==33570816)=false∧(t==33603576)=false∧(t==268435456)=false∧(t==268435457)=false∧(t==268435461)=false∧(t==268439552)=false∧(t==268439560)=false∧(t==268439568)=false∧(t==268439576)=false∧(t==268443648)=false∧(t==268443656)=false∧(t==268443664)=false∧(t==268443672)=false
theorem zhj (t:Int) (h:zdv t) (W:World):TW 198 #[.int .u64 t] W (.int .i64 0):=by
 obtain ⟨h0,h1,h2,h3,h4,h5,h6,h7,h8,h9,h10,h11,h12,h13⟩:=h;go_enter func198,ntmps198;go_wp2_with fail;go_ret;exact ⟨rfl,rfl⟩
def ordV (v a b:Int):Int:=if (v==1)=true then a else if (v==2)=true then b else 0
theorem zyX (v a b:Int) (W:World):TW 200 #[.int .u64 v,.int .i64 a,.int .i64 b] W (.int .i64 (ordV v a b)):=by
 have HE:Hid (∀ x y:Bool,(v==1)=x→(v==2)=y→ordV v a b=if x=true then a else if y=true then b else 0):=hid (by rintro x y rfl rfl;rfl);rcases Bool.eq_false_or_eq_true (v==1) with h1 | h1
 all_goals rcases Bool.eq_false_or_eq_true (v==2) with h2 | h2
 all_goals have HF:=hid (HE.out _ _ h1 h2)
 all_goals
  go_enter func200,ntmps200;go_wp2_with fail;go_ret;exact ⟨zam HF.out.symm,rfl⟩
def hasB (b:Bd):Bool:=(b.sec.size:Int)==1024
theorem zd9 (b:Bd) (W:World):TB 59 #[bdV b] W (.bool (hasB b)):=by
 have m_sec:(bdC b)[4]?=some (.string b.sec):=zbc b 4 (by omega);go_enter func59,ntmps59;go_wp2_with fail;go_ret;exact ⟨rfl,(Below.refl _ _).alloc (Nat.le_refl _) _⟩
theorem zcq {B:Nat} {w w':World} (h:Below B w w') (n:Nat):Below B w (w'.drewN n):=⟨h.os,h.tape,h.output,h.size,h.block⟩
def zfC (b:Bd) (n:Int):Int:=bits .or .u64 (bV b.msip 3) (bV (decide (b.cmp≤n)) 7)
def zbB (b:Bd) (F:List ByteArray):Int:=IntKind.u32.wrap (bits .or .u64 (bits .or .u64 (bV (b.ier && decide (0<b.inn.size)) 1) (bV b.done 2)) (bV (decide (0<F.length)) 3))
theorem zqc (b:Bd) (n:Int) (W:World):TB 44 #[bdV b,.int .u64 n] W (.int .u64 (zfC b n)):=by
 have m_msip:(bdC b)[0]?=some (.bool b.msip):=zbc b 0 (by omega);have m_cmp:(bdC b)[1]?=some (.int .u64 b.cmp):=zbc b 1 (by omega);obtain ⟨x,Ex⟩:∃ x,bV (b.msip) 3=x:=⟨_,rfl⟩;have Cx:Hid (∀ W,Calls Tryz.prog 64 #[.bool (b.msip),.int .i64 3] W fun e W'=>e=.returned (.int .u64 x)∧W'=W):=hid fun W=>(zhE _ W).mono fun _ _ h=>⟨by rw [← Ex];exact h.1,h.2.symm⟩
 replace Ex:=hid Ex
 obtain ⟨y,Ey⟩:∃ x,bV (decide (b.cmp≤n)) 7=x:=⟨_,rfl⟩;have Cy:Hid (∀ W,Calls Tryz.prog 64 #[.bool (decide (b.cmp≤n)),.int .i64 7] W fun e W'=>e=.returned (.int .u64 y)∧W'=W):=hid fun W=>(zns _ W).mono fun _ _ h=>⟨by rw [← Ey];exact h.1,h.2.symm⟩
 replace Ey:=hid Ey
 have HE:Hid (bits .or .u64 x y=zfC b n):=hid (by unfold zfC;rw [Ex.out,Ey.out]);go_enter func44,ntmps44;go_upto_region 1 with (fail)
 go_quiet (first | (go_at_call 64;with_reducible exact Calls.quiet_of_same (Cx.out _)) | (go_at_call 64;with_reducible exact Calls.quiet_of_same (Cy.out _)))
 go_wp2_with fail;go_ret;exact ⟨zam HE.out,zcq ((Below.refl _ _).alloc (Nat.le_refl _) _) _⟩
theorem zhg (s:ByteArray):(!s.toList.isEmpty)=decide (0<s.size):=by
 rw [ByteArray.toList_eq];have h:s.size=s.data.toList.length:=by rw [Array.length_toList];rfl
 rw [h];cases s.data.toList <;> simp
theorem zoQ (b:Bd) (F:List ByteArray) (W:World) (hi:b.ier=true) (hl:b.fn=F.length):TB 46 #[bdV b] W (.int .u32 (zbB b F)):=by
 have m_inn:(bdC b)[2]?=some (.string b.inn):=zbc b 2 (by omega);have m_ier:(bdC b)[3]?=some (.bool b.ier):=zbc b 3 (by omega);have m_done:(bdC b)[7]?=some (.bool b.done):=zbc b 7 (by omega);have m_fr:(bdC b)[9]?=some (.slice b.fp b.fn b.fc):=zbc b 9 (by omega);rw [hi] at m_ier;rw [hl] at m_fr;obtain ⟨x,Ex⟩:∃ x,bV (!b.inn.toList.isEmpty) 1=x:=⟨_,rfl⟩;have Cx:Hid (∀ W,Calls Tryz.prog 64 #[.bool (!b.inn.toList.isEmpty),.int .i64 1] W fun e W'=>e=.returned (.int .u64 x)∧W'=W):=hid fun W=>(zhB _ W).mono fun _ _ h=>⟨by rw [← Ex];exact h.1,h.2.symm⟩
 replace Ex:=hid Ex
 obtain ⟨y,Ey⟩:∃ x,bV (b.done) 2=x:=⟨_,rfl⟩;have Cy:Hid (∀ W,Calls Tryz.prog 64 #[.bool (b.done),.int .i64 2] W fun e W'=>e=.returned (.int .u64 y)∧W'=W):=hid fun W=>(zgY _ W).mono fun _ _ h=>⟨by rw [← Ey];exact h.1,h.2.symm⟩
 replace Ey:=hid Ey
 obtain ⟨z,Ez⟩:∃ x,bV (decide (0<F.length)) 3=x:=⟨_,rfl⟩;have Cz:Hid (∀ W,Calls Tryz.prog 64 #[.bool (decide (0<F.length)),.int .i64 3] W fun e W'=>e=.returned (.int .u64 z)∧W'=W):=hid fun W=>(zhE _ W).mono fun _ _ h=>⟨by rw [← Ez];exact h.1,h.2.symm⟩
 replace Ez:=hid Ez
 have HE:Hid (IntKind.u32.wrap (bits .or .u64 (bits .or .u64 x y) z)=zbB b F):=hid (by unfold zbB;rw [← Ex.out,← Ey.out,← Ez.out,hi];simp [zhg]);clear hi hl;go_enter func46,ntmps46;go_upto_region 1 with (fail)
 go_quiet (first | (go_at_call 64;with_reducible exact Calls.quiet_of_same (Cx.out _)) | (go_at_call 64;with_reducible exact Calls.quiet_of_same (Cy.out _)) | (go_at_call 64;with_reducible exact Calls.quiet_of_same (Cz.out _)))
 go_wp2_with fail;go_ret;exact ⟨zam HE.out,zcq ((Below.refl _ _).alloc (Nat.le_refl _) _) _⟩
theorem ztn (b:Bd) (F:List ByteArray) (W:World) (hi:b.ier=false) (hl:b.fn=F.length):TB 46 #[bdV b] W (.int .u32 (zbB b F)):=by
 have m_inn:(bdC b)[2]?=some (.string b.inn):=zbc b 2 (by omega);have m_ier:(bdC b)[3]?=some (.bool b.ier):=zbc b 3 (by omega);have m_done:(bdC b)[7]?=some (.bool b.done):=zbc b 7 (by omega);have m_fr:(bdC b)[9]?=some (.slice b.fp b.fn b.fc):=zbc b 9 (by omega);rw [hi] at m_ier;rw [hl] at m_fr;obtain ⟨x,Ex⟩:∃ x,bV (false) 1=x:=⟨_,rfl⟩;have Cx:Hid (∀ W,Calls Tryz.prog 64 #[.bool (false),.int .i64 1] W fun e W'=>e=.returned (.int .u64 x)∧W'=W):=hid fun W=>(zhB _ W).mono fun _ _ h=>⟨by rw [← Ex];exact h.1,h.2.symm⟩
 replace Ex:=hid Ex
 obtain ⟨y,Ey⟩:∃ x,bV (b.done) 2=x:=⟨_,rfl⟩;have Cy:Hid (∀ W,Calls Tryz.prog 64 #[.bool (b.done),.int .i64 2] W fun e W'=>e=.returned (.int .u64 y)∧W'=W):=hid fun W=>(zgY _ W).mono fun _ _ h=>⟨by rw [← Ey];exact h.1,h.2.symm⟩
 replace Ey:=hid Ey
 obtain ⟨z,Ez⟩:∃ x,bV (decide (0<F.length)) 3=x:=⟨_,rfl⟩;have Cz:Hid (∀ W,Calls Tryz.prog 64 #[.bool (decide (0<F.length)),.int .i64 3] W fun e W'=>e=.returned (.int .u64 z)∧W'=W):=hid fun W=>(zhE _ W).mono fun _ _ h=>⟨by rw [← Ez];exact h.1,h.2.symm⟩
 replace Ez:=hid Ez
 have HE:Hid (IntKind.u32.wrap (bits .or .u64 (bits .or .u64 x y) z)=zbB b F):=hid (by unfold zbB;rw [← Ex.out,← Ey.out,← Ez.out,hi];simp);clear hi hl;go_enter func46,ntmps46;go_upto_region 1 with (fail)
 go_quiet (first | (go_at_call 64;with_reducible exact Calls.quiet_of_same (Cx.out _)) | (go_at_call 64;with_reducible exact Calls.quiet_of_same (Cy.out _)) | (go_at_call 64;with_reducible exact Calls.quiet_of_same (Cz.out _)))
 go_wp2_with fail;go_ret;exact ⟨zam HE.out,zcq ((Below.refl _ _).alloc (Nat.le_refl _) _) _⟩
theorem zlz (b:Bd) (F:List ByteArray) (W:World) (hl:b.fn=F.length):TB 46 #[bdV b] W (.int .u32 (zbB b F)):=by
 rcases Bool.eq_false_or_eq_true b.ier with hi | hi
 ·exact zoQ b F W hi hl
 ·exact ztn b F W hi hl
theorem Box.put {w w':World} {g:Nat} {b b':Bd} (k:Box w g b) (h:w'=w.setRow g (bdC b')):Box w' g b':=by subst h;exact Box.mine k b'
theorem znp {W w w':World} {B g:Nat} {cs:Array Value} (k:Below B W w) (hg:B≤g) (h:w'=w.setRow g cs):Below B W w':=by subst h;exact below_setRow k hg cs
def zet (s:ByteArray):Int:=if h:0<s.size then (s[0].toNat:Int) else 0
def zeD (s:ByteArray):ByteArray:=if 0<s.size then s.extract 1 s.size else s
def lenF (F:List ByteArray):Int:=if h:0<F.length then IntKind.u64.wrap (F[0].size:Int) else 0
def ldF (b:Bd) (F:List ByteArray) (t s n:Int):Bd × List ByteArray × Int × Bool :=
 if t=33554432∧s=4 then (b,F,bV b.msip 0,true) else
 if t=33570816∧s=8 then (b,F,b.cmp,true) else
 if t=33603576∧s=8 then (b,F,n,true) else
 if t=268435456∧s=1 then ({ b with inn:=zeD b.inn },F,zet b.inn,true) else
 if t=268435457∧s=1 then (b,F,bV b.ier 0,true) else
 if t=268435461∧s=1 then (b,F,bits .or .u64 (bV (decide (0<b.inn.size)) 0) 96,true) else
 if t=268439552∧s=8 then (b,F,b.sector,true) else
 if t=268439560∧s=8 then (b,F,b.addr,true) else
 if t=268439576∧s=8 then ({ b with done:=false },F,bits .or .u64 (bV b.done 0) (bV b.bad 1),true) else
 if t=268443648∧s=8 then (b,F,lenF F,true) else
 if t=268443656∧s=8 then (b,F,b.nicA,true) else
 if t=268443672∧s=8 then (b,F,b.nicL,true) else
 (bdZ,[],0,false)
theorem zb2 (b:Bd) (F:List ByteArray) (t s n:Int) (h:¬ (t=33554432∧s=4)∧¬ (t=33570816∧s=8)∧¬ (t=33603576∧s=8)∧¬ (t=268435456∧s=1)∧¬ (t=268435457∧s=1)∧¬ (t=268435461∧s=1)∧¬ (t=268439552∧s=8)∧¬ (t=268439560∧s=8)∧¬ (t=268439576∧s=8)∧¬ (t=268443648∧s=8)∧¬ (t=268443656∧s=8)∧¬ (t=268443672∧s=8)):ldF b F t s n=(bdZ,[],0,false):=by
 obtain ⟨h0,h1,h2,h3,h4,h5,h6,h7,h9,h10,h11,h13⟩:=h;unfold ldF;rw [if_neg h0,if_neg h1,if_neg h2,if_neg h3,if_neg h4,if_neg h5,if_neg h6,if_neg h7,if_neg h9,if_neg h10,if_neg h11,if_neg h13]
def Told (W:World) (r:Bd) (F:List ByteArray) (f:Value→Value) (e:Ending) (W':World):Prop :=
 ∃ p c,e=.returned (f (bdV (r.at p F.length c)))∧OwnF W' W.heap.size (.slice p F.length c) F∧Below W.heap.size W W'
theorem za7 {fn:Func} {p u x:Tmp} (h:fn.results=#[.cell p 35,.tmp u,.tmp x]) (tmps:Array Value) (w:World) (g:Nat) (k:Bd) (v y:Value) (hp:tmps.getD p undef=.pointer (some ⟨g,0,none⟩)) (hg:Box w g k) (hv:tmps.getD u undef=v) (hy:tmps.getD x undef=y) :
  (results fn tmps).run Tryz.prog w=.ok (.tuple #[bdV k,v,y]) w:=by
 have hp':tmps[p]?.getD undef=.pointer (some ⟨g,0,none⟩):=by simpa using hp
 have hv':tmps[u]?.getD undef=v:=by simpa using hv
 have hy':tmps[x]?.getD undef=y:=by simpa using hy
 simp [results,h,hp',hv',hy',asAddr,Box.result hg]
theorem zbv {fn:Func} {p u:Tmp} (h:fn.results=#[.cell p 35,.tmp u]) (tmps:Array Value) (w:World) (g:Nat) (k:Bd) (v:Value) (hp:tmps.getD p undef=.pointer (some ⟨g,0,none⟩)) (hg:Box w g k) (hv:tmps.getD u undef=v) :
  (results fn tmps).run Tryz.prog w=.ok (.tuple #[bdV k,v]) w:=by
 rw [results_cell_tmp h,hp,hv]
 simp [asAddr,Result.andThen,Box.result hg]
theorem zdW {W W':World} (f:Value→Value) (hb:Below W.heap.size W W'):Told W bdZ [] f (.returned (f (bdV bdZ))) W':=⟨none,0,rfl,World.ownsRow_nil W' _ _ _,hb⟩
theorem KA.drewN {W w:World} {b r:Bd} (k:KA W w b r) (n:Nat):KA W (w.drewN n) b r:=k.next (zcq (Below.refl _ _) n)
theorem OwnF.drewN {w:World} {B:Nat} {v:Value} {F:List ByteArray} (h:OwnF w B v F) (n:Nat):OwnF (w.drewN n) B v F:=h.next (zcq (Below.refl _ _) n)
end Go.Proofs.YtplcfdnfeclpmaaGreatDoor
namespace Go
theorem zbg {P:Program} {ρ:Operand→Value} {o:Oper} {t:TypeId} {p:Operand} (ho:o.op=.load t p) {v r:Value} {w:World} (hrun:(Instr.loadAt t v).run P w=.ok r w) (hp:ρ p=v):(execOp ρ o).run P w=.ok (.value r) w:=by
 unfold execOp
 simp [ho,hp,hrun,Result.andThen]
theorem zaM {P:Program} {ops:Array Oper} {w:World} {Q:Act→Prop} {rest:List Oper} {o:Oper} {a:Act} (hgd:o.guard=none) {t:TypeId} {p:Operand} (ho:o.op=.load t p) {v r:Value} (hrun:(Instr.loadAt t v).run P w=.ok r w) (hp:a.eval p=v) (h:wpStill P ops w Q rest (a.put o.dst r)):wpStill P ops w Q (o :: rest) a:=by
 refine wpStill_step fun K hK=>?_
 simp only [Region.wanted,hgd,if_true];unfold Oper.still;rw [zbg ho hrun hp];exact ⟨rfl,hK _ h⟩
theorem zcj {P:Program} {ops:Array Oper} {S:World→Prop} {o:Oper} {a:Act} {t:TypeId} {p:Operand} {v r:Value} (hgd:o.guard=none) (ho:o.op=.load t p) (hp:a.eval p=v) (h:∀ w,S w→(Instr.loadAt t v).run P w=.ok r w):YieldsIf P ops S o r a :=
 .inl ⟨by simp [Region.wanted,hgd],fun w hw=>zbg ho (h w hw) hp⟩
theorem zce {P:Program} {md:Region.Mode} {ops:Array Oper} {Q:Exit→Act→World→Prop} {S:World→Prop} {fuel:Nat} {listed:Array Bool} {a:Act} {w w':World} {i:Nat} {o:Oper} {t:TypeId} {p x:Operand} {v u:Value}
  (hr:Region.ready md ops listed=[i]) (hi:ops[i]?=some o) (hgd:o.guard=none) (ho:o.op=.store t p x) (hp:a.eval p=v) (hx:a.eval x=u) (hrun:(Instr.storeAt t v u).run P w=.ok () w') (hS:S w')
  (h:wpAnyH P md ops Q S fuel (listed.setIfInBounds i true) (a.put o.dst undef) w'):wpAnyH P md ops Q S (fuel+1) listed a w:=by
 refine wpAnyH_ready (rs:=[i]) hr (by simp) (AllReadyH.cons hi (fun K hK=>?_) AllReadyH.nil)
 simp only [Region.wanted,hgd,if_true];unfold Oper.wp
 simp [execOp,ho,hp,hx,hrun,Result.andThen]
 exact hK.out _ _ hS (fun _=>h)
theorem zxf {P:Program} {md:Region.Mode} {ops:Array Oper} {Q:Exit→Act→World→Prop} {S:World→Prop} {fuel:Nat} {listed:Array Bool} {a:Act} {w w':World} {i:Nat} {o:Oper} {v:Value}
  (hr:Region.ready md ops listed=[i]) (hi:ops[i]?=some o) (hgd:o.guard=none) (hrun:(execOp a.eval o).run P w=.ok (.value v) w') (hS:S w')
  (h:wpAnyH P md ops Q S fuel (listed.setIfInBounds i true) (a.put o.dst v) w'):wpAnyH P md ops Q S (fuel+1) listed a w:=by
 refine wpAnyH_ready (rs:=[i]) hr (by simp) (AllReadyH.cons hi (fun K hK=>?_) AllReadyH.nil)
 simp only [Region.wanted,hgd,if_true];unfold Oper.wp;rw [hrun];exact hK.out _ _ hS (fun _=>h)
end Go

namespace Go.Proofs.YtplcfdnfeclpmaaGreatDoor
structure Mem (W wx:World) (l:List (Nat × Array Value × Nat)) (r:List (Nat × Value × Nat × List Value)):Prop where
 cel:∀ x∈l,wx.heap[x.1]?=some (.cells x.2.1 x.2.2 (0,0))
 nod:(l.map (·.1)).Nodup
 typ:∀ x∈l,33≤x.2.2
 big:∀ x∈l,W.heap.size≤x.1
 own:∀ y∈r,wx.ownsRow W.heap.size y.1 1 y.2.1 y.2.2.1 y.2.2.2
 row:∀ y∈r,y.1<33
 below:Below W.heap.size W wx
theorem Mem.start (W:World):Mem W W [] []:=⟨by simp,by simp,by simp,by simp,by simp,by simp,Below.refl _ _⟩
theorem Mem.next {W w w':World} {l:List (Nat × Array Value × Nat)} {r:List (Nat × Value × Nat × List Value)} (h:Mem W w l r) (j:Below w.heap.size w w'):Mem W w' l r :=
 ⟨fun x hx=>(j.block _ ((Array.getElem?_eq_some_iff.1 (h.cel x hx)).1)).trans (h.cel x hx),h.nod,h.typ,h.big,fun y hy=>zcf (h.own y hy) j,h.row,zac h.below j⟩
theorem Mem.new {W w:World} {l:List (Nat × Array Value × Nat)} {r:List (Nat × Value × Nat × List Value)} (h:Mem W w l r) (cs:Array Value) (t:Nat) (ht:33≤t):Mem W (w.alloc (.cells cs t)) ((w.heap.size,cs,t) :: l) r:=by
 have k:=h.next (zag w (.cells cs t));refine ⟨fun x hx=>?_,?_,fun x hx=>?_,fun x hx=>?_,k.own,h.row,k.below⟩
 ·rcases List.mem_cons.1 hx with rfl | hx
  ·exact heap_alloc_last w _
  ·exact k.cel x hx
 ·rw [List.map_cons,List.nodup_cons]
  refine ⟨fun hm=>?_,h.nod⟩
  obtain ⟨x,hx,e⟩:=List.mem_map.1 hm;have hlt:=(Array.getElem?_eq_some_iff.1 (h.cel x hx)).1;omega
 ·rcases List.mem_cons.1 hx with rfl | hx
  ·exact ht
  ·exact h.typ x hx
 ·rcases List.mem_cons.1 hx with rfl | hx
  ·exact h.below.size
  ·exact h.big x hx
theorem Mem.addrow {W w:World} {l:List (Nat × Array Value × Nat)} {r:List (Nat × Value × Nat × List Value)} (h:Mem W w l r) {e:Nat} {B:Nat} {v:Value} {n:Nat} {xs:List Value} (ho:w.ownsRow B e 1 v n xs) (hB:W.heap.size≤B) (he:e<33):Mem W w l ((e,v,n,xs) :: r) :=
 ⟨h.cel,h.nod,h.typ,h.big,fun y hy=>by
  rcases List.mem_cons.1 hy with rfl | hy
  ·exact zdD ho hB
  ·exact h.own y hy,fun y hy=>by
  rcases List.mem_cons.1 hy with rfl | hy
  ·exact he
  ·exact h.row y hy,h.below⟩
theorem Mem.set {W w w':World} {a l:List (Nat × Array Value × Nat)} {k t:Nat} {cs cs':Array Value} {r:List (Nat × Value × Nat × List Value)} (h:Mem W w (a ++ (k,cs,t) :: l) r) (hw:w'=w.setRow k cs'):Mem W w' (a ++ (k,cs',t) :: l) r:=by
 subst hw;have hk:=h.cel (k,cs,t) (by simp);have hn:=h.nod;refine ⟨fun x hx=>?_,by simpa using hn,fun x hx=>?_,fun x hx=>?_,fun y hy=>?_,h.row,below_setRow h.below (h.big (k,cs,t) (by simp)) _⟩
 ·by_cases e:x.1=k
  ·have hx2:x=(k,cs',t):=by
    rw [List.map_append,List.map_cons] at hn;rcases List.mem_append.1 hx with hx | hx
    ·exfalso
     have:=(List.nodup_append.1 hn).2.2 x.1 (List.mem_map_of_mem hx) k (by simp);exact this e
    ·rcases List.mem_cons.1 hx with rfl | hx
     ·rfl
     ·exfalso
      have:=(List.nodup_cons.1 (List.nodup_append.1 hn).2.1).1;exact this (List.mem_map.2 ⟨x,hx,e⟩)
   subst hx2;exact setRow_heap w k cs cs' t (0,0) hk
  ·refine (setRow_other w k x.1 cs' e).trans (h.cel x ?_)
   rcases List.mem_append.1 hx with hx | hx
   ·exact List.mem_append_left _ hx
   ·rcases List.mem_cons.1 hx with rfl | hx
    ·exact absurd rfl e
    ·exact List.mem_append_right _ (List.mem_cons_of_mem _ hx)
 ·rcases List.mem_append.1 hx with hx | hx
  ·exact h.typ x (List.mem_append_left _ hx)
  ·rcases List.mem_cons.1 hx with rfl | hx
   ·exact h.typ (k,cs,t) (by simp)
   ·exact h.typ x (List.mem_append_right _ (List.mem_cons_of_mem _ hx))
 ·rcases List.mem_append.1 hx with hx | hx
  ·exact h.big x (List.mem_append_left _ hx)
  ·rcases List.mem_cons.1 hx with rfl | hx
   ·exact h.big (k,cs,t) (by simp)
   ·exact h.big x (List.mem_append_right _ (List.mem_cons_of_mem _ hx))
 ·have ht:=h.typ (k,cs,t) (by simp)
  have hr:=h.row y hy;exact zc1 (h.own y hy) ((zau.refl w (fun g=>g=k)).setRow (.inl rfl) cs') (fun g' e1 e2=>zb8 (h.own y hy) hk (fun e3=>absurd (show (t:Nat)<33 from (show y.1=t from e3) ▸ hr) (Nat.not_lt.2 ht)) (by rw [e1,e2]))
theorem Mem.g0 {W w:World} {k t:Nat} {cs:Array Value} {l:List (Nat × Array Value × Nat)} {r:List (Nat × Value × Nat × List Value)} (h:Mem W w ((k,cs,t) :: l) r):w.heap[k]?=some (.cells cs t (0,0)):=h.cel (k,cs,t) (by simp)
theorem Mem.b0 {W w:World} {k:Nat} {b:Bd} {l:List (Nat × Array Value × Nat)} {r:List (Nat × Value × Nat × List Value)} (h:Mem W w ((k,bdC b,35) :: l) r):Box w k b:=h.cel (k,bdC b,35) (by simp)
theorem Mem.p0 {W w w':World} {k t:Nat} {cs cs':Array Value} {l:List (Nat × Array Value × Nat)} {r:List (Nat × Value × Nat × List Value)} (h:Mem W w ((k,cs,t) :: l) r) (hw:w'=w.setRow k cs'):Mem W w' ((k,cs',t) :: l) r:=Mem.set (a:=[]) h hw
theorem Mem.g1 {W w:World} {x0:Nat × Array Value × Nat} {k t:Nat} {cs:Array Value} {l:List (Nat × Array Value × Nat)} {r:List (Nat × Value × Nat × List Value)} (h:Mem W w (x0 :: (k,cs,t) :: l) r):w.heap[k]?=some (.cells cs t (0,0)):=h.cel (k,cs,t) (by simp)
theorem Mem.b1 {W w:World} {x0:Nat × Array Value × Nat} {k:Nat} {b:Bd} {l:List (Nat × Array Value × Nat)} {r:List (Nat × Value × Nat × List Value)} (h:Mem W w (x0 :: (k,bdC b,35) :: l) r):Box w k b:=h.cel (k,bdC b,35) (by simp)
theorem Mem.p1 {W w w':World} {x0:Nat × Array Value × Nat} {k t:Nat} {cs cs':Array Value} {l:List (Nat × Array Value × Nat)} {r:List (Nat × Value × Nat × List Value)} (h:Mem W w (x0 :: (k,cs,t) :: l) r) (hw:w'=w.setRow k cs'):Mem W w' (x0 :: (k,cs',t) :: l) r:=Mem.set (a:=[x0]) h hw
theorem Mem.g2 {W w:World} {x0 x1:Nat × Array Value × Nat} {k t:Nat} {cs:Array Value} {l:List (Nat × Array Value × Nat)} {r:List (Nat × Value × Nat × List Value)} (h:Mem W w (x0 :: x1 :: (k,cs,t) :: l) r):w.heap[k]?=some (.cells cs t (0,0)):=h.cel (k,cs,t) (by simp)
theorem Mem.b2 {W w:World} {x0 x1:Nat × Array Value × Nat} {k:Nat} {b:Bd} {l:List (Nat × Array Value × Nat)} {r:List (Nat × Value × Nat × List Value)} (h:Mem W w (x0 :: x1 :: (k,bdC b,35) :: l) r):Box w k b:=h.cel (k,bdC b,35) (by simp)
theorem Mem.p2 {W w w':World} {x0 x1:Nat × Array Value × Nat} {k t:Nat} {cs cs':Array Value} {l:List (Nat × Array Value × Nat)} {r:List (Nat × Value × Nat × List Value)} (h:Mem W w (x0 :: x1 :: (k,cs,t) :: l) r) (hw:w'=w.setRow k cs'):Mem W w' (x0 :: x1 :: (k,cs',t) :: l) r:=Mem.set (a:=[x0,x1]) h hw
theorem Mem.g3 {W w:World} {x0 x1 x2:Nat × Array Value × Nat} {k t:Nat} {cs:Array Value} {l:List (Nat × Array Value × Nat)} {r:List (Nat × Value × Nat × List Value)} (h:Mem W w (x0 :: x1 :: x2 :: (k,cs,t) :: l) r):w.heap[k]?=some (.cells cs t (0,0)):=h.cel (k,cs,t) (by simp)
theorem Mem.g4 {W w:World} {x0 x1 x2 x3:Nat × Array Value × Nat} {k t:Nat} {cs:Array Value} {l:List (Nat × Array Value × Nat)} {r:List (Nat × Value × Nat × List Value)} (h:Mem W w (x0 :: x1 :: x2 :: x3 :: (k,cs,t) :: l) r):w.heap[k]?=some (.cells cs t (0,0)):=h.cel (k,cs,t) (by simp)
theorem Mem.b4 {W w:World} {x0 x1 x2 x3:Nat × Array Value × Nat} {k:Nat} {b:Bd} {l:List (Nat × Array Value × Nat)} {r:List (Nat × Value × Nat × List Value)} (h:Mem W w (x0 :: x1 :: x2 :: x3 :: (k,bdC b,35) :: l) r):Box w k b:=h.cel (k,bdC b,35) (by simp)
theorem Mem.b5 {W w:World} {x0 x1 x2 x3 x4:Nat × Array Value × Nat} {k:Nat} {b:Bd} {l:List (Nat × Array Value × Nat)} {r:List (Nat × Value × Nat × List Value)} (h:Mem W w (x0 :: x1 :: x2 :: x3 :: x4 :: (k,bdC b,35) :: l) r):Box w k b:=h.cel (k,bdC b,35) (by simp)
theorem Mem.p5 {W w w':World} {x0 x1 x2 x3 x4:Nat × Array Value × Nat} {k t:Nat} {cs cs':Array Value} {l:List (Nat × Array Value × Nat)} {r:List (Nat × Value × Nat × List Value)} (h:Mem W w (x0 :: x1 :: x2 :: x3 :: x4 :: (k,cs,t) :: l) r) (hw:w'=w.setRow k cs'):Mem W w' (x0 :: x1 :: x2 :: x3 :: x4 :: (k,cs',t) :: l) r:=Mem.set (a:=[x0,x1,x2,x3,x4]) h hw
theorem Mem.r0 {W w:World} {e n:Nat} {v:Value} {xs:List Value} {l:List (Nat × Array Value × Nat)} {r:List (Nat × Value × Nat × List Value)} (h:Mem W w l ((e,v,n,xs) :: r)):w.ownsRow W.heap.size e 1 v n xs:=h.own (e,v,n,xs) (by simp)
theorem Mem.r1 {W w:World} {y0:Nat × Value × Nat × List Value} {e n:Nat} {v:Value} {xs:List Value} {l:List (Nat × Array Value × Nat)} {r:List (Nat × Value × Nat × List Value)} (h:Mem W w l (y0 :: (e,v,n,xs) :: r)):w.ownsRow W.heap.size e 1 v n xs:=h.own (e,v,n,xs) (by simp)
theorem Mem.r2 {W w:World} {y0 y1:Nat × Value × Nat × List Value} {e n:Nat} {v:Value} {xs:List Value} {l:List (Nat × Array Value × Nat)} {r:List (Nat × Value × Nat × List Value)} (h:Mem W w l (y0 :: y1 :: (e,v,n,xs) :: r)):w.ownsRow W.heap.size e 1 v n xs:=h.own (e,v,n,xs) (by simp)
def outS (v:Int):ByteArray:=⟨#[UInt8.ofNat v.toNat]⟩
def stF (b:Bd) (F:List ByteArray) (t s v:Int):Bd × List ByteArray × Int × ByteArray × Bool :=
 if t=33554432∧s=4 then ({ b with msip:=bits .and .u64 v 1==1 },F,0,⟨#[]⟩,true) else
 if t=33570816∧s=8 then ({ b with cmp:=v },F,0,⟨#[]⟩,true) else
 if t=268435456∧s=1 then (b,F,1,outS v,true) else
 if t=268435457∧s=1 then ({ b with ier:=bits .and .u64 v 1==1 },F,0,⟨#[]⟩,true) else
 if t=268439552∧s=8 then ({ b with sector:=v },F,0,⟨#[]⟩,true) else
 if t=268439560∧s=8 then ({ b with addr:=v },F,0,⟨#[]⟩,true) else
 if t=268439568∧s=8 then (b,F,ordV v 2 3,⟨#[]⟩,true) else
 if t=268443656∧s=8 then ({ b with nicA:=v },F,0,⟨#[]⟩,true) else
 if t=268443664∧s=8 then (b,F,ordV v 4 5,⟨#[]⟩,true) else
 if t=268443672∧s=8 then ({ b with nicL:=v },F,0,⟨#[]⟩,true) else
 (bdZ,[],0,⟨#[]⟩,false)
theorem zbO (b:Bd) (F:List ByteArray) (t s v:Int) (h:¬ (t=33554432∧s=4)∧¬ (t=33570816∧s=8)∧¬ (t=268435456∧s=1)∧¬ (t=268435457∧s=1)∧¬ (t=268439552∧s=8)∧¬ (t=268439560∧s=8)∧¬ (t=268439568∧s=8)∧¬ (t=268443656∧s=8)∧¬ (t=268443664∧s=8)∧¬ (t=268443672∧s=8)):stF b F t s v=(bdZ,[],0,⟨#[]⟩,false):=by
 obtain ⟨h0,h1,h3,h4,h6,h7,h8,h11,h12,h13⟩:=h;unfold stF;rw [if_neg h0,if_neg h1,if_neg h3,if_neg h4,if_neg h6,if_neg h7,if_neg h8,if_neg h11,if_neg h12,if_neg h13]
def EBox (w:World) (g:Nat) (k:Int) (s:ByteArray):Prop:=w.heap[g]?=some (.cells #[.int .i64 k,.string s] 162 (0,0))
abbrev effV (k:Int) (s:ByteArray):Value:=.agg #[.int .i64 k,.string s]
theorem EBox.lt {w:World} {g:Nat} {k:Int} {s:ByteArray} (h:EBox w g k s):g<w.heap.size:=(Array.getElem?_eq_some_iff.1 h).1
theorem EBox.next {w w':World} {g:Nat} {k:Int} {s:ByteArray} (h:EBox w g k s) (j:Below w.heap.size w w'):EBox w' g k s:=(j.block g h.lt).trans h
theorem EBox.over {w:World} {g x:Nat} {k:Int} {s:ByteArray} (h:EBox w g k s) (hg:g≠x) (cs:Array Value):EBox (w.setRow x cs) g k s:=(setRow_other w x g cs hg).trans h
theorem EBox.mine {w:World} {g:Nat} {k:Int} {s:ByteArray} (h:EBox w g k s) (k':Int) (s':ByteArray):EBox (w.setRow g #[.int .i64 k',.string s']) g k' s':=setRow_heap w g _ _ 162 (0,0) h
theorem EBox.load {w:World} {g:Nat} {k:Int} {s:ByteArray} (h:EBox w g k s):(Instr.loadAt 162 (.pointer (some ⟨g,0,none⟩))).run Tryz.prog w=.ok (effV k s) w:=by
 simp only [Instr.loadAt,Instr.sureAddr,Sem.run_bind,Sem.run_pure,Result.andThen];exact run_loadVar_row w g 162 162 _ (0,0) _ h underlying162 rfl (by rw [zhT];rfl)
theorem EBox.result {w:World} {g:Nat} {k:Int} {s:ByteArray} (h:EBox w g k s):(loadVar 162 ⟨g,0,none⟩).run Tryz.prog w=.ok (effV k s) w :=
 run_loadVar_row w g 162 162 _ (0,0) _ h underlying162 rfl (by rw [zhT];rfl)
theorem EBox.store {w:World} {g:Nat} {k:Int} {s:ByteArray} (h:EBox w g k s) (k':Int) (s':ByteArray):(Instr.storeAt 162 (.pointer (some ⟨g,0,none⟩)) (effV k' s')).run Tryz.prog w=.ok () (w.setRow g #[.int .i64 k',.string s']):=by
 simp only [Instr.storeAt,Instr.sureAddr,Sem.run_bind,Sem.run_pure,Result.andThen];exact run_storeVar_row w g 162 162 _ _ h (by rw [zhT];rfl) rfl (by simp [Value.oneCell'])
theorem EBox.store_kind {w:World} {g:Nat} {k:Int} {s:ByteArray} (h:EBox w g k s) (k':Int):(Instr.storeAt 3 (.pointer (some ⟨g,0,none⟩)) (.int .i64 k')).run Tryz.prog w=.ok () (w.setRow g #[.int .i64 k',.string s]) :=
 zbQ w g 0 3 162 #[.int .i64 k,.string s] _ h zhD (by simp) rfl rfl
theorem EBox.w_all {w:World} {g:Nat} {k k':Int} {s s':ByteArray} (h:EBox w g k s) {ops:Array Oper} {rest:List Oper} {o:Oper} {a:Act} {Q:Exit→Act→World→Prop} (hgd:o.guard=none) {p x:Operand} (ho:o.op=.store 162 p x) (hp:a.eval p=.pointer (some ⟨g,0,none⟩)) (hx:a.eval x=effV k' s')
  (hh:∀ wy,wy=w.setRow g #[.int .i64 k',.string s']→wpList Tryz.prog ops Q rest (a.put o.dst undef) wy):wpList Tryz.prog ops Q (o :: rest) a w :=
 zan hgd ho (h.store k' s') hp hx (hh _ rfl)
theorem EBox.w_kind {w:World} {g:Nat} {k k':Int} {s:ByteArray} (h:EBox w g k s) {ops:Array Oper} {rest:List Oper} {o:Oper} {a:Act} {Q:Exit→Act→World→Prop} (hgd:o.guard=none) {p x:Operand} (ho:o.op=.store 3 p x) (hp:a.eval p=.pointer (some ⟨g,0,none⟩)) (hx:a.eval x=.int .i64 k')
  (hh:∀ wy,wy=w.setRow g #[.int .i64 k',.string s]→wpList Tryz.prog ops Q rest (a.put o.dst undef) wy):wpList Tryz.prog ops Q (o :: rest) a w :=
 zan hgd ho (h.store_kind k') hp hx (hh _ rfl)
abbrev effO:Obj:=.cells #[.int .i64 0,.string ⟨#[]⟩] 162
theorem EBox.new (w:World):EBox (w.alloc effO) w.heap.size 0 ⟨#[]⟩:=heap_alloc_last w _
structure KS (W wx:World) (b r:Bd) (k:Int) (s:ByteArray):Prop where
 own:Box wx W.heap.size b
 res:Box wx (W.heap.size+1) r
 eff:EBox wx (W.heap.size+2) k s
 below:Below W.heap.size W wx
theorem KS.new (W:World) (b:Bd):KS W (((W.alloc (bdO b)).alloc zaj).alloc effO) b bdZ 0 ⟨#[]⟩:=by
 have k:=KA.new W b;have e:=EBox.new ((W.alloc (bdO b)).alloc zaj);rw [World.size_alloc,World.size_alloc] at e;exact ⟨k.own.alloc _,k.res.alloc _,e,k.below.alloc (by simp;omega) _⟩
theorem KS.next {W w w':World} {b r:Bd} {k:Int} {s:ByteArray} (h:KS W w b r k s) (j:Below w.heap.size w w'):KS W w' b r k s:=⟨h.own.next j,h.res.next j,h.eff.next j,zac h.below j⟩
theorem KS.put {W w w':World} {b b' r:Bd} {k:Int} {s:ByteArray} (h:KS W w b r k s) (hw:w'=w.setRow W.heap.size (bdC b')):KS W w' b' r k s:=by
 subst hw;exact ⟨Box.mine h.own b',h.res.over (by omega) _,h.eff.over (by omega) _,below_setRow h.below (Nat.le_refl _) _⟩
theorem KS.tell {W w w':World} {b r r':Bd} {k:Int} {s:ByteArray} (h:KS W w b r k s) (hw:w'=w.setRow (W.heap.size+1) (bdC r')):KS W w' b r' k s:=by
 subst hw;exact ⟨h.own.over (by omega) _,Box.mine h.res r',h.eff.over (by omega) _,below_setRow h.below (by omega) _⟩
theorem KS.give {W w w':World} {b r:Bd} {k k':Int} {s s':ByteArray} (h:KS W w b r k s) (hw:w'=w.setRow (W.heap.size+2) #[.int .i64 k',.string s']):KS W w' b r k' s':=by
 subst hw;exact ⟨h.own.over (by omega) _,h.res.over (by omega) _,h.eff.mine k' s',below_setRow h.below (by omega) _⟩
theorem KS.far {W w w':World} {b r:Bd} {k:Int} {s:ByteArray} {z:Nat} {cs:Array Value} (h:KS W w b r k s) (hz:W.heap.size+2<z) (hw:w'=w.setRow z cs):KS W w' b r k s:=by
 subst hw;exact ⟨h.own.over (by omega) _,h.res.over (by omega) _,h.eff.over (by omega) _,below_setRow h.below (by omega) _⟩
theorem KS.size {W w:World} {b r:Bd} {k:Int} {s:ByteArray} (h:KS W w b r k s):W.heap.size+2<w.heap.size:=h.eff.lt
theorem zcK {fn:Func} {p u x:Tmp} (h:fn.results=#[.cell p 35,.cell u 162,.tmp x]) (tmps:Array Value) (w:World) (g e:Nat) (k:Bd) (i:Int) (s:ByteArray) (y:Value) (hp:tmps.getD p undef=.pointer (some ⟨g,0,none⟩)) (hg:Box w g k) (hu:tmps.getD u undef=.pointer (some ⟨e,0,none⟩)) (he:EBox w e i s) (hy:tmps.getD x undef=y) :
  (results fn tmps).run Tryz.prog w=.ok (.tuple #[bdV k,effV i s,y]) w:=by
 have hp':tmps[p]?.getD undef=.pointer (some ⟨g,0,none⟩):=by simpa using hp
 have hu':tmps[u]?.getD undef=.pointer (some ⟨e,0,none⟩):=by simpa using hu
 have hy':tmps[x]?.getD undef=y:=by simpa using hy
 simp [results,h,hp',hu',hy',asAddr,Box.result hg,EBox.result he]
theorem OwnF.eput {w w':World} {B g:Nat} {v:Value} {F:List ByteArray} {k:Int} {s:ByteArray} {cs:Array Value} (h:OwnF w B v F) (e:EBox w g k s) (hw:w'=w.setRow g cs):OwnF w' B v F:=by
 subst hw;exact zc1 h ((zau.refl w (fun k=>k=g)).setRow (.inl rfl) cs) (fun g' e1 e2=>zb8 h e (by decide) (by rw [e1,e2]))
end Go.Proofs.YtplcfdnfeclpmaaGreatDoor
