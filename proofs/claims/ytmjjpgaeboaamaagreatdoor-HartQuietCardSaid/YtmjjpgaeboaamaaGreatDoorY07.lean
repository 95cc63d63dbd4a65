/- HartQuiet,part 7. -/
import Derived.ChangeKeysEq
import Derived.Laws.StructEq
import Derived.Below
import Derived.Deep.Draws
import Derived.Deep.Slices
import Derived.BigQuiet
import Derived.Carry
import Derived.ChangeMaps
import Derived.Deep.DeepCutAuto
import Derived.Deep.RegionHeld3
import Derived.Deep.RegionWith
import Derived.Deep.WholeRow
import Derived.IntWalk
import Derived.Laws.BitsAllLaws
import Derived.Laws.Bits64b
import Derived.Laws.Closers25b
import Derived.Laws.ResultCell
import Derived.Laws.CopyOwn
import Derived.Lib.Hide
import Derived.Lib.SmallJoins
import Derived.OpenShut
import Derived.ProofKit
import Derived.SizedLaws
import Derived.WalkKit
import Derived.WalkLawsBesides
import Derived.Lib.Mul64
import Derived.Test.YtmjjpgaeboaamaaGreatDoorY05
import Derived.Test.YtmjjpgaeboaamaaGreatDoorY06
set_option maxHeartbeats 4000000
set_option maxRecDepth 100000
open Go.Lib (hid)
namespace Go.Proofs.YtmjjpgaeboaamaaGreatDoor.Pc
open Go.RowKit Go.Deep Go.Joins
def zcF (h:Pl) (s:Int):Int:=bits .or .u64 (if zaM h s 0=0 then 0 else 2048) (if zaM h s 1=0 then 0 else 512)
theorem zg8 (m:Bool) (k q:Int) (x:Int × Int) (hk:0≤k∧k≤3) (hx:0≤x.1∧x.1≤3):0≤(za3 m k q x).1∧(za3 m k q x).1≤3:=by
 unfold za3
 split
 ·exact hk
 ·exact hx
theorem zih (h:Pl) (s e l:Int):0≤(stB h s e l 4).1∧(stB h s e l 4).1≤3 :=
 zg8 _ _ _ _ (by omega) (zg8 _ _ _ _ (by omega) (zg8 _ _ _ _ (by omega) ⟨by show (0:Int)≤0;omega,by show (0:Int)≤3;omega⟩))
theorem zf6 (h:Pl) (s who:Int):0≤zaM h s who∧zaM h s who≤3:=by
 unfold zaM
 split
 ·exact zih h s _ _
 ·split
  ·exact zih h s _ _
  ·omega
theorem zxi (h:Pl) (s:Int) (n0:zaM h s 0=0) (n1:zaM h s 1=0) (W:World):TB 70 #[plV h,.int .u32 s] W (.int .u64 (zcF h s)):=by
 have HE:Hid (zcF h s=0):=hid (by unfold zcF;rw [if_pos n0,if_pos n1] <;> decide +kernel)
 have q0:=zcl h s 0
 have q1:=zcl h s 1
 rw [n0] at q0
 rw [n1] at q1
 have Q0:=hid q0
 have Q1:=hid q1
 clear q0 q1
 go_enter Tryz.func70,Tryz.ntmps70
 go_wp2_with (first | (with_reducible first | refine zaa rfl rfl (Box.load ((Box.new W h).next k1)) rfl ?_ | refine zaa rfl rfl (Box.load (Box.new W h)) rfl ?_) | (go_at_call 99;(with_reducible refine (Q0.out _).mono ?_);rintro e w1 ⟨rfl,k1⟩) | (go_at_call 99;(with_reducible refine (Q1.out _).mono ?_);rintro e w2 ⟨rfl,k2⟩) | fail)
 go_ret
 exact ⟨zah HE.out.symm,zad (zad ((Below.refl _ _).alloc (Nat.le_refl _) _) (Nat.le_refl _) k1) (Nat.le_refl _) k2⟩
theorem ztE (h:Pl) (s:Int) (n0:zaM h s 0=0) (n1:0<zaM h s 1) (W:World):TB 70 #[plV h,.int .u32 s] W (.int .u64 (zcF h s)):=by
 have HE:Hid (zcF h s=bits .or .u64 0 512):=hid (by unfold zcF;rw [if_pos n0,if_neg (by omega)] <;> decide +kernel)
 have q0:=zcl h s 0
 have q1:=zcl h s 1
 rw [n0] at q0
 have e1:(zaM h s 1 != 0)=true:=by rw [bne_iff_ne];omega
 generalize zaM h s 1=x1 at *
 have Q0:=hid q0
 have Q1:=hid q1
 clear q0 q1
 go_enter Tryz.func70,Tryz.ntmps70
 go_wp2_with (first | (with_reducible first | refine zaa rfl rfl (Box.load ((Box.new W h).next k1)) rfl ?_ | refine zaa rfl rfl (Box.load (Box.new W h)) rfl ?_) | (go_at_call 99;(with_reducible refine (Q0.out _).mono ?_);rintro e w1 ⟨rfl,k1⟩) | (go_at_call 99;(with_reducible refine (Q1.out _).mono ?_);rintro e w2 ⟨rfl,k2⟩) | fail)
 go_ret
 exact ⟨zah HE.out.symm,zad (zad ((Below.refl _ _).alloc (Nat.le_refl _) _) (Nat.le_refl _) k1) (Nat.le_refl _) k2⟩
theorem zmO (h:Pl) (s:Int) (n0:0<zaM h s 0) (n1:zaM h s 1=0) (W:World):TB 70 #[plV h,.int .u32 s] W (.int .u64 (zcF h s)):=by
 have HE:Hid (zcF h s=bits .or .u64 0 2048):=hid (by unfold zcF;rw [if_neg (by omega),if_pos n1] <;> decide +kernel)
 have q0:=zcl h s 0
 have q1:=zcl h s 1
 have e0:(zaM h s 0 != 0)=true:=by rw [bne_iff_ne];omega
 generalize zaM h s 0=x0 at *
 rw [n1] at q1
 have Q0:=hid q0
 have Q1:=hid q1
 clear q0 q1
 go_enter Tryz.func70,Tryz.ntmps70
 go_wp2_with (first | (with_reducible first | refine zaa rfl rfl (Box.load ((Box.new W h).next k1)) rfl ?_ | refine zaa rfl rfl (Box.load (Box.new W h)) rfl ?_) | (go_at_call 99;(with_reducible refine (Q0.out _).mono ?_);rintro e w1 ⟨rfl,k1⟩) | (go_at_call 99;(with_reducible refine (Q1.out _).mono ?_);rintro e w2 ⟨rfl,k2⟩) | fail)
 go_ret
 exact ⟨zah HE.out.symm,zad (zad ((Below.refl _ _).alloc (Nat.le_refl _) _) (Nat.le_refl _) k1) (Nat.le_refl _) k2⟩
theorem zle (h:Pl) (s:Int) (n0:0<zaM h s 0) (n1:0<zaM h s 1) (W:World):TB 70 #[plV h,.int .u32 s] W (.int .u64 (zcF h s)):=by
 have HE:Hid (zcF h s=bits .or .u64 (bits .or .u64 0 2048) 512):=hid (by unfold zcF;rw [if_neg (by omega),if_neg (by omega)] <;> decide +kernel)
 have q0:=zcl h s 0
 have q1:=zcl h s 1
 have e0:(zaM h s 0 != 0)=true:=by rw [bne_iff_ne];omega
 generalize zaM h s 0=x0 at *
 have e1:(zaM h s 1 != 0)=true:=by rw [bne_iff_ne];omega
 generalize zaM h s 1=x1 at *
 have Q0:=hid q0
 have Q1:=hid q1
 clear q0 q1
 go_enter Tryz.func70,Tryz.ntmps70
 go_wp2_with (first | (with_reducible first | refine zaa rfl rfl (Box.load ((Box.new W h).next k1)) rfl ?_ | refine zaa rfl rfl (Box.load (Box.new W h)) rfl ?_) | (go_at_call 99;(with_reducible refine (Q0.out _).mono ?_);rintro e w1 ⟨rfl,k1⟩) | (go_at_call 99;(with_reducible refine (Q1.out _).mono ?_);rintro e w2 ⟨rfl,k2⟩) | fail)
 go_ret
 exact ⟨zah HE.out.symm,zad (zad ((Below.refl _ _).alloc (Nat.le_refl _) _) (Nat.le_refl _) k1) (Nat.le_refl _) k2⟩
theorem zm8 (h:Pl) (s:Int) (W:World):TB 70 #[plV h,.int .u32 s] W (.int .u64 (zcF h s)):=by
 have r0:=zf6 h s 0
 have r1:=zf6 h s 1
 by_cases n0:zaM h s 0=0
 ·by_cases n1:zaM h s 1=0
  ·exact zxi h s n0 n1 W
  ·exact ztE h s n0 (by omega) W
 ·by_cases n1:zaM h s 1=0
  ·exact zmO h s (by omega) n1 W
  ·exact zle h s (by omega) (by omega) W
def ldF (h:Pl) (s t z:Int):Pl × Int × Bool :=
 if t=201326596∧z=4 then (h,IntKind.u64.wrap h.p1,true) else
 if t=201326600∧z=4 then (h,IntKind.u64.wrap h.p2,true) else
 if t=201326604∧z=4 then (h,IntKind.u64.wrap h.p3,true) else
 if t=201330688∧z=4 then (h,IntKind.u64.wrap (zbx s h.c),true) else
 if t=201334784∧z=4 then (h,IntKind.u64.wrap h.e0,true) else
 if t=201334912∧z=4 then (h,IntKind.u64.wrap h.e1,true) else
 if t=203423744∧z=4 then (h,IntKind.u64.wrap h.l0,true) else
 if t=203427840∧z=4 then (h,IntKind.u64.wrap h.l1,true) else
 if t=203423748∧z=4 then ({ h with c:=bits .or .u32 h.c (wt (zaM h s 0)) },zaM h s 0,true) else
 if t=203427844∧z=4 then ({ h with c:=bits .or .u32 h.c (wt (zaM h s 1)) },zaM h s 1,true) else
 (zc4,0,false)
theorem zb8 (h:Pl) (s t z:Int) (hn:z≠4∨zdg t):ldF h s t z=(zc4,0,false):=by
 unfold ldF
 rcases hn with hn | hn
 ·simp [hn]
 ·simp [hn.n_p1,hn.n_p2,hn.n_p3,hn.n_wait,hn.n_e0,hn.n_e1,hn.n_l0,hn.n_l1,hn.n_b0,hn.n_b1]
theorem zwq (h:Pl) (s:Int):ldF h s 201326596 4=(h,IntKind.u64.wrap h.p1,true):=rfl
theorem zo7 (h:Pl) (s:Int):ldF h s 201326600 4=(h,IntKind.u64.wrap h.p2,true):=rfl
theorem zqf (h:Pl) (s:Int):ldF h s 201326604 4=(h,IntKind.u64.wrap h.p3,true):=rfl
theorem zvL (h:Pl) (s:Int):ldF h s 201330688 4=(h,IntKind.u64.wrap (zbx s h.c),true):=rfl
theorem zph (h:Pl) (s:Int):ldF h s 201334784 4=(h,IntKind.u64.wrap h.e0,true):=rfl
theorem zsh (h:Pl) (s:Int):ldF h s 201334912 4=(h,IntKind.u64.wrap h.e1,true):=rfl
theorem zuv (h:Pl) (s:Int):ldF h s 203423744 4=(h,IntKind.u64.wrap h.l0,true):=rfl
theorem zow (h:Pl) (s:Int):ldF h s 203427840 4=(h,IntKind.u64.wrap h.l1,true):=rfl
theorem zf9 (h:Pl) (s:Int):ldF h s 203423748 4=({ h with c:=bits .or .u32 h.c (wt (zaM h s 0)) },zaM h s 0,true):=rfl
theorem zfA (h:Pl) (s:Int):ldF h s 203427844 4=({ h with c:=bits .or .u32 h.c (wt (zaM h s 1)) },zaM h s 1,true):=rfl
def zbS (h:Pl) (n e:Int):Int:=if (1≤n∧n≤3)∧bitT e n.toNat=true then bits .andNot .u32 h.c (wt n) else h.c
def stF (h:Pl) (t z v:Int):Pl × Bool :=
 if t=201326596∧z=4 then ({ h with p1:=bits .and .u32 (IntKind.u32.wrap v) 7 },true) else
 if t=201326600∧z=4 then ({ h with p2:=bits .and .u32 (IntKind.u32.wrap v) 7 },true) else
 if t=201326604∧z=4 then ({ h with p3:=bits .and .u32 (IntKind.u32.wrap v) 7 },true) else
 if t=201334784∧z=4 then ({ h with e0:=bits .and .u32 (IntKind.u32.wrap v) 14 },true) else
 if t=201334912∧z=4 then ({ h with e1:=bits .and .u32 (IntKind.u32.wrap v) 14 },true) else
 if t=203423744∧z=4 then ({ h with l0:=bits .and .u32 (IntKind.u32.wrap v) 7 },true) else
 if t=203427840∧z=4 then ({ h with l1:=bits .and .u32 (IntKind.u32.wrap v) 7 },true) else
 if t=203423748∧z=4 then ({ h with c:=zbS h (IntKind.u32.wrap v) h.e0 },true) else
 if t=203427844∧z=4 then ({ h with c:=zbS h (IntKind.u32.wrap v) h.e1 },true) else
 (zc4,false)
theorem zbW (h:Pl) (t z v:Int) (hn:z≠4∨zdg t):stF h t z v=(zc4,false):=by
 unfold stF
 rcases hn with hn | hn
 ·simp [hn]
 ·simp [hn.n_p1,hn.n_p2,hn.n_p3,hn.n_e0,hn.n_e1,hn.n_l0,hn.n_l1,hn.n_b0,hn.n_b1]
theorem zu7 (h:Pl) (v:Int):stF h 201330688 4 v=(zc4,false):=rfl
theorem zlO (h:Pl) (v:Int):stF h 201326596 4 v=({ h with p1:=bits .and .u32 (IntKind.u32.wrap v) 7 },true):=rfl
theorem zla (h:Pl) (v:Int):stF h 201326600 4 v=({ h with p2:=bits .and .u32 (IntKind.u32.wrap v) 7 },true):=rfl
theorem znF (h:Pl) (v:Int):stF h 201326604 4 v=({ h with p3:=bits .and .u32 (IntKind.u32.wrap v) 7 },true):=rfl
theorem zs6 (h:Pl) (v:Int):stF h 201334784 4 v=({ h with e0:=bits .and .u32 (IntKind.u32.wrap v) 14 },true):=rfl
theorem zmG (h:Pl) (v:Int):stF h 201334912 4 v=({ h with e1:=bits .and .u32 (IntKind.u32.wrap v) 14 },true):=rfl
theorem zkZ (h:Pl) (v:Int):stF h 203423744 4 v=({ h with l0:=bits .and .u32 (IntKind.u32.wrap v) 7 },true):=rfl
theorem zpW (h:Pl) (v:Int):stF h 203427840 4 v=({ h with l1:=bits .and .u32 (IntKind.u32.wrap v) 7 },true):=rfl
theorem zfa (h:Pl) (v:Int):stF h 203423748 4 v=({ h with c:=zbS h (IntKind.u32.wrap v) h.e0 },true):=rfl
theorem ze8 (h:Pl) (v:Int):stF h 203427844 4 v=({ h with c:=zbS h (IntKind.u32.wrap v) h.e1 },true):=rfl
end Go.Proofs.YtmjjpgaeboaamaaGreatDoor.Pc
namespace Go.Proofs.YtmjjpgaeboaamaaGreatDoor
open Go.RowKit Go.Deep Go.Joins
structure Reg where
 s0:Int
 s1:Int
 s2:Int
 s3:Int
 s4:Int
 s5:Int
 s6:Int
 s7:Int
 s8:Int
 s9:Int
 s10:Int
 s11:Int
 s12:Int
 s13:Int
 s14:Int
 s15:Int
abbrev regV (c:Reg):Value:=.agg #[.int .u64 c.s0,.int .u64 c.s1,.int .u64 c.s2,.int .u64 c.s3,.int .u64 c.s4,.int .u64 c.s5,.int .u64 c.s6,.int .u64 c.s7,.int .u64 c.s8,.int .u64 c.s9,.int .u64 c.s10,.int .u64 c.s11,.int .u64 c.s12,.int .u64 c.s13,.int .u64 c.s14,.int .u64 c.s15]
structure Hart where
 x:List Int
 hx:x.length=32
 pc:Int
 mode:Int
 c:Reg
 held:Bool
 rat:Int
def xL (h:Hart):List Value:=h.x.map (.int .u64)
def zbp (h:Hart):List Value:=[.int .u64 h.pc,.int .i64 h.mode,.int .u64 h.c.s0,.int .u64 h.c.s1,.int .u64 h.c.s2,.int .u64 h.c.s3,.int .u64 h.c.s4,.int .u64 h.c.s5,.int .u64 h.c.s6,.int .u64 h.c.s7,.int .u64 h.c.s8,.int .u64 h.c.s9,.int .u64 h.c.s10,.int .u64 h.c.s11,.int .u64 h.c.s12,.int .u64 h.c.s13,.int .u64 h.c.s14,.int .u64 h.c.s15,.bool h.held,.int .u64 h.rat]
def zbk (h:Hart):List Value:=xL h ++ zbp h
def zar (h:Hart):Array Value:=(zbk h).toArray
abbrev zas (h:Hart):Value:=.agg (zar h)
theorem zdt (h:Hart):(xL h).length=32:=by unfold xL;simp [h.hx]
theorem zch (h:Hart):(zar h).size=52:=by unfold zar zbk;simp [zdt,zbp]
theorem za7 (h:Hart) (k:Nat):(zar h)[32+k]?=(zbp h)[k]?:=by
 unfold zar zbk
 rw [List.getElem?_toArray,List.getElem?_append_right (by rw [zdt];omega),zdt]
 congr 1
 omega
theorem zpR (h:Hart) (k:Nat) (hk:k<32):(zar h)[k]?=(xL h)[k]?:=by
 unfold zar zbk
 rw [List.getElem?_toArray,List.getElem?_append_left (by rw [zdt];omega)]
theorem zgE (h:Hart):(zar h).all (·.oneCell')=true:=by
 unfold zar zbk xL zbp
 simp [Value.oneCell']
theorem zcH:(Tryz.prog.info? 27).map (·.size)=some 52:=by kernel_rfl
theorem zc5:(Tryz.prog.info? 25).map (·.size)=some 16:=by kernel_rfl
end Go.Proofs.YtmjjpgaeboaamaaGreatDoor
namespace Go
theorem zeV {P:Program} (w:World) (g k:Nat) (t ty:TypeId) (cs cs' part:Array Value) (hg:w.heap[g]?=some (.cells cs t (0,0))) (hi:(P.info? ty).map (·.size)=some part.size) (h1:part.all (·.oneCell')=true)
  (hf:k+part.size≤cs.size) (he:cs'.toList=cs.toList.take k ++ part.toList ++ cs.toList.drop (k+part.size)) :
  (Instr.storeAt ty (.pointer (some ⟨g,k,none⟩)) (.agg part)).run P w=.ok () (w.setRow g cs'):=by
 have hs:=run_storeCells_at (P:=P) g k t part.toList 0 cs w hg (by simpa using hf) (fun v hv=>(Array.all_eq_true_iff_forall_mem.1 h1) v (by simpa using hv))
 have e:(cs.toList.take (k+0) ++ part.toList ++ cs.toList.drop (k+0+part.toList.length)).toArray=cs':=by
  rw [Nat.add_zero,Array.length_toList,← he]
 rw [e] at hs
 cases hq:P.info? ty with
 | none=>simp [hq] at hi
 | some i =>
  have hz:part.size=i.size:=by simp [hq] at hi;omega
  simp [Instr.storeAt,Instr.sureAddr,storeVar,sizeOf,typeInfo,hq,Value.cells,hz,hs,Sem.run_bind,Result.andThen]
theorem zfm {α:Type} (a b c d:List α) (k n:Nat) (h1:a.length=k) (h2:b.length=n):a ++ (d ++ c)=(a ++ (b ++ c)).take k ++ d ++ (a ++ (b ++ c)).drop (k+n):=by
 subst h1
 rw [List.take_left,← h2,← List.drop_drop,List.drop_left,List.drop_left,List.append_assoc]
end Go
namespace Go.Proofs.YtmjjpgaeboaamaaGreatDoor
open Go.RowKit Go.Deep Go.Joins
abbrev Rec:=Int × Int × ByteArray
def rcL (r:Rec):List Value:=[.int .u64 r.1,.int .i64 r.2.1,.string r.2.2]
def oC (O:List Rec):List Value:=(O.map rcL).flatten
theorem ze1 (O:List Rec):(oC O).length=O.length*3:=by
 unfold oC
 induction O with
 | nil=>rfl
 | cons r O ih=>simp only [List.map_cons,List.flatten_cons,List.length_append,ih,List.length_cons,rcL,List.length_nil];omega
theorem zrS (O P:List Rec):oC (O ++ P)=oC O ++ oC P:=by unfold oC;simp
theorem zv3 (O:List Rec):∀ v∈oC O,v.oneCell'=true:=fun v hv=>by
 unfold oC at hv
 obtain ⟨l,hl,hm⟩:=List.mem_flatten.1 hv
 obtain ⟨r,_,rfl⟩:=List.mem_map.1 hl
 simp only [rcL,List.mem_cons,List.not_mem_nil,or_false] at hm
 rcases hm with rfl | rfl | rfl <;> rfl
theorem zqx (O:List Rec):∀ (k:Nat) (hk:k<O.length) (j:Nat),j<3→(oC O)[3*k+j]?=(rcL O[k])[j]?:=by
 induction O with
 | nil=>intro k hk;cases hk
 | cons r O ih =>
  intro k hk j hj
  have e:oC (r :: O)=rcL r ++ oC O:=by unfold oC;simp
  rw [e]
  cases k with
  | zero =>
   rw [List.getElem?_append_left (by simp [rcL];omega)]
   simp
  | succ k =>
   rw [List.getElem?_append_right (by simp [rcL];omega)]
   rw [show 3*(k+1)+j - (rcL r).length=3*k+j by simp [rcL];omega,ih k (by simpa using hk) j hj]
   simp
structure Mc where
 h:Hart
 b:Bd
 dv:Value
 mv:Value
 E:Int
 cnt:Int
 nxt:Int
 ov:Value
def mcT (m:Mc):List Value:=[m.dv,m.mv,.int .u64 m.E,.int .u64 m.cnt,.int .u64 m.nxt,m.ov]
def mcL (m:Mc):List Value:=zbk m.h ++ ((bdC m.b).toList ++ mcT m)
def mcC (m:Mc):Array Value:=(mcL m).toArray
abbrev mcV (m:Mc):Value:=.agg (mcC m)
abbrev mcO (m:Mc):Obj:=.cells (mcC m) 42
theorem zcq (h:Hart):(zbk h).length=52:=by have:=zch h;unfold zar at this;simpa using this
theorem zdL (b:Bd):(bdC b).toList.length=21:=by rw [Array.length_toList,zaL]
theorem zcv (m:Mc):(mcC m).size=79:=by unfold mcC mcL mcT;simp [zcq,zaL]
theorem zeu (m:Mc) (k:Nat) (hk:k<52):(mcC m)[k]?=(zar m.h)[k]?:=by
 unfold mcC mcL zar
 rw [List.getElem?_toArray,List.getElem?_append_left (by rw [zcq];exact hk),List.getElem?_toArray]
theorem zfH (m:Mc) (k:Nat) (hk:k<21):(mcC m)[52+k]?=(bdC m.b)[k]?:=by
 unfold mcC mcL
 rw [List.getElem?_toArray,List.getElem?_append_right (by rw [zcq];omega),zcq,show 52+k - 52=k by omega,List.getElem?_append_left (by rw [zdL];exact hk),Array.getElem?_toList]
theorem zdm (m:Mc) (k:Nat):(mcC m)[73+k]?=(mcT m)[k]?:=by
 unfold mcC mcL
 rw [List.getElem?_toArray,List.getElem?_append_right (by rw [zcq];omega),zcq,List.getElem?_append_right (by rw [zdL];omega),zdL]
 congr 1
 omega
theorem zoq:(Tryz.prog.info? 40).map (·.size)=some 1:=by kernel_rfl
theorem zgq:(Tryz.prog.info? 42).map (·.size)=some 79:=by kernel_rfl
theorem zfb {v:Value} {w:World} {B n e:Nat} {xs:List Value} {sz:Nat} (h:w.ownsRow B e sz v n xs):v.oneCell'=true:=by
 obtain ⟨p,c,rfl⟩:=zbJ h
 rfl
structure Mc1 (m:Mc):Prop where
 dd:m.dv.oneCell'=true
 mm:m.mv.oneCell'=true
 oo:m.ov.oneCell'=true
theorem zwp (m:Mc) (h:Mc1 m):(mcC m).all (·.oneCell')=true:=by
 have h1:=zgE m.h
 have h2:=zgU m.b
 rw [Array.all_eq_true_iff_forall_mem] at h1 h2 ⊢
 intro v hv
 unfold mcC mcL at hv
 rw [List.mem_toArray,List.mem_append,List.mem_append] at hv
 rcases hv with hv | hv | hv
 ·exact h1 v (by unfold zar;simpa using hv)
 ·exact h2 v (by simpa using hv)
 ·simp only [mcT,List.mem_cons,List.not_mem_nil,or_false] at hv
  rcases hv with rfl | rfl | rfl | rfl | rfl | rfl
  ·exact h.dd
  ·exact h.mm
  ·rfl
  ·rfl
  ·rfl
  ·exact h.oo
def MBox (w:World) (g:Nat) (m:Mc):Prop:=w.heap[g]?=some (mcO m)
theorem MBox.lt {w:World} {g:Nat} {m:Mc} (k:MBox w g m):g<w.heap.size:=(Array.getElem?_eq_some_iff.1 k).1
theorem MBox.next {w w':World} {g:Nat} {m:Mc} (k:MBox w g m) (j:Below w.heap.size w w'):MBox w' g m:=(j.block g k.lt).trans k
theorem MBox.mine {w:World} {g:Nat} {old:Array Value} (k:w.heap[g]?=some (.cells old 42 (0,0))) (m:Mc):MBox (w.setRow g (mcC m)) g m:=setRow_heap w g old (mcC m) 42 (0,0) k
theorem MBox.put {w w':World} {g:Nat} {m m':Mc} (k:MBox w g m) (h:w'=w.setRow g (mcC m')):MBox w' g m':=by subst h;exact MBox.mine k m'
theorem MBox.load {w:World} {g:Nat} {m:Mc} (k:MBox w g m):(Instr.loadAt 42 (.pointer (some ⟨g,0,none⟩))).run Tryz.prog w=.ok (mcV m) w:=by
 simp only [Instr.loadAt,Instr.sureAddr,Sem.run_bind,Sem.run_pure,Result.andThen]
 exact run_loadVar_row w g 42 42 (mcC m) (0,0) _ k Tryz.underlying42 rfl (by rw [zgq,zcv])
theorem MBox.store {w:World} {g:Nat} {old:Array Value} (m:Mc) (h1:Mc1 m) (k:w.heap[g]?=some (.cells old 42 (0,0))) (ho:old.size=79):(Instr.storeAt 42 (.pointer (some ⟨g,0,none⟩)) (mcV m)).run Tryz.prog w=.ok () (w.setRow g (mcC m)):=by
 simp only [Instr.storeAt,Instr.sureAddr,Sem.run_bind,Sem.run_pure,Result.andThen]
 exact run_storeVar_row w g 42 42 old (mcC m) k (by rw [zgq,zcv]) (by rw [ho,zcv]) (zwp m h1)
theorem MBox.load_hart {w:World} {g:Nat} {m:Mc} (k:MBox w g m):(Instr.loadAt 27 (.pointer (some ⟨g,0,none⟩))).run Tryz.prog w=.ok (zas m.h) w :=
 zdS w g 0 42 27 (mcC m) (zbk m.h) _ k Tryz.underlying27 rfl (by rw [zcH,zcq]) fun j v hv=>by
  rw [Nat.zero_add,zeu m j (by have:=(List.getElem?_eq_some_iff.1 hv).1;rwa [zcq] at this)]
  unfold zar
  rwa [List.getElem?_toArray]
theorem MBox.load_b {w:World} {g:Nat} {m:Mc} (k:MBox w g m):(Instr.loadAt 35 (.pointer (some ⟨g,52,none⟩))).run Tryz.prog w=.ok (bdV m.b) w :=
 (zdS w g 52 42 35 (mcC m) (bdC m.b).toList _ k Tryz.underlying35 rfl (by rw [zec,zdL]) fun j v hv=>by
  rw [zfH m j (by have:=(List.getElem?_eq_some_iff.1 hv).1;rwa [zdL] at this)]
  rwa [Array.getElem?_toList] at hv)
theorem MBox.load_pl {w:World} {g:Nat} {m:Mc} (k:MBox w g m):(Instr.loadAt 33 (.pointer (some ⟨g,64,none⟩))).run Tryz.prog w=.ok (.agg (plC m.b.pl)) w :=
 (zdS w g 64 42 33 (mcC m) (plL m.b.pl) _ k Tryz.underlying33 rfl (by rw [zeC];rfl) fun j v hv=>by
  have hj:j<9:=by have:=(List.getElem?_eq_some_iff.1 hv).1;simpa [plL] using this
  rw [show 64+j=52+(12+j) by omega,zfH m (12+j) (by omega),znT]
  exact hv)
theorem MBox.load_ram {w:World} {g:Nat} {m:Mc} (k:MBox w g m):(Instr.loadAt 39 (.pointer (some ⟨g,73,none⟩))).run Tryz.prog w=.ok (.agg #[m.dv,m.mv,.int .u64 m.E]) w :=
 (zdS w g 73 42 39 (mcC m) [m.dv,m.mv,.int .u64 m.E] _ k Tryz.underlying39 rfl (by kernel_rfl) fun j v hv=>by
  rw [zdm]
  match j,hv with
  | 0,hv=>exact hv
  | 1,hv=>exact hv
  | 2,hv=>exact hv
  | j+3,hv=>simp at hv)
theorem MBox.cell_t {w:World} {g:Nat} {m:Mc} (k:MBox w g m) (j:Nat):w.cell? ⟨g,73+j,none⟩=(mcT m)[j]?:=(cell_of_row w g (73+j) (mcC m) 42 (0,0) k).trans (zdm m j)
theorem MBox.load_cnt {w:World} {g:Nat} {m:Mc} (k:MBox w g m):(Instr.loadAt 22 (.pointer (some ⟨g,76,none⟩))).run Tryz.prog w=.ok (.int .u64 m.cnt) w :=
 zaU w g 76 22 42 (mcC m) _ _ k Tryz.underlying22 rfl (zdm m 3)
theorem MBox.load_nxt {w:World} {g:Nat} {m:Mc} (k:MBox w g m):(Instr.loadAt 22 (.pointer (some ⟨g,77,none⟩))).run Tryz.prog w=.ok (.int .u64 m.nxt) w :=
 zaU w g 77 22 42 (mcC m) _ _ k Tryz.underlying22 rfl (zdm m 4)
theorem MBox.load_o {w:World} {g:Nat} {m:Mc} (k:MBox w g m):(Instr.loadAt 40 (.pointer (some ⟨g,78,none⟩))).run Tryz.prog w=.ok m.ov w :=
 zaU w g 78 40 42 (mcC m) _ _ k Tryz.underlying40 rfl (zdm m 5)
theorem MBox.store_b {w:World} {g:Nat} {m:Mc} (k:MBox w g m) (b:Bd):(Instr.storeAt 35 (.pointer (some ⟨g,52,none⟩)) (bdV b)).run Tryz.prog w=.ok () (w.setRow g (mcC { m with b:=b })) :=
 zeV w g 52 42 35 (mcC m) (mcC { m with b:=b }) (bdC b) k (by rw [zec,zaL]) (zgU b) (by rw [zaL,zcv];omega)
  (by show mcL _=(mcL m).take 52 ++ _ ++ (mcL m).drop _;rw [zaL];exact zfm (zbk m.h) (bdC m.b).toList (mcT m) (bdC b).toList 52 21 (zcq _) (zdL _))
theorem ziM (b:Bd):(bdC b).toList=bdL b ++ plL b.pl:=by unfold bdC;simp
theorem zhZ (m:Mc):mcL m=(zbk m.h ++ bdL m.b) ++ (plL m.b.pl ++ mcT m):=by unfold mcL;rw [ziM];simp only [List.append_assoc]
theorem MBox.store_pl {w:World} {g:Nat} {m:Mc} (k:MBox w g m) (p:Pl):(Instr.storeAt 33 (.pointer (some ⟨g,64,none⟩)) (.agg (plC p))).run Tryz.prog w=.ok () (w.setRow g (mcC { m with b:={ m.b with pl:=p } })) :=
 zeV w g 64 42 33 (mcC m) (mcC { m with b:={ m.b with pl:=p } }) (plC p) k (by rw [zeC];rfl) (Pc.zjC p) (by rw [zcv];show 64+9≤79;omega)
  (by
   show mcL { m with b:={ m.b with pl:=p } }=(mcL m).take 64 ++ _ ++ (mcL m).drop (64+9)
   rw [zhZ m,zhZ { m with b:={ m.b with pl:=p } }]
   exact zfm (zbk m.h ++ bdL m.b) (plL m.b.pl) (mcT m) (plL p) 64 9 (by rw [List.length_append,zcq];rfl) rfl)
theorem zg5 (m m':Mc) (k:Nat) (v:Value) (hh:m'.h=m.h) (hb:m'.b=m.b) (ht:mcT m'=(mcT m).set k v):(mcC m).setIfInBounds (73+k) v=mcC m':=by
 unfold mcC mcL
 rw [List.setIfInBounds_toArray,List.set_append_right _ _ (by rw [zcq];omega),List.set_append_right _ _ (by rw [zcq,zdL];omega),zcq,zdL,show 73+k - 52 - 21=k by omega,← ht,hh,hb]
theorem MBox.store_nxt {w:World} {g:Nat} {m:Mc} (k:MBox w g m) (n:Int):(Instr.storeAt 22 (.pointer (some ⟨g,77,none⟩)) (.int .u64 n)).run Tryz.prog w=.ok () (w.setRow g (mcC { m with nxt:=n })) :=
 (zbL w g 77 22 42 (mcC m) _ k zbQ (by rw [zcv];omega) rfl rfl).trans (by rw [zg5 m { m with nxt:=n } 4 _ rfl rfl rfl])
theorem MBox.store_o {w:World} {g:Nat} {m:Mc} (k:MBox w g m) (p:Option Addr) (n c:Nat):(Instr.storeAt 40 (.pointer (some ⟨g,78,none⟩)) (.slice p n c)).run Tryz.prog w=.ok () (w.setRow g (mcC { m with ov:=.slice p n c })) :=
 (zbL w g 78 40 42 (mcC m) _ k zoq (by rw [zcv];omega) rfl rfl).trans (by rw [zg5 m { m with ov:=.slice p n c } 5 _ rfl rfl rfl])
theorem MBox.store_ram {w:World} {g:Nat} {m:Mc} (k:MBox w g m) (p q:Option Addr) (n c l d:Nat) (E:Int):(Instr.storeAt 39 (.pointer (some ⟨g,73,none⟩)) (.agg #[.slice p n c,.slice q l d,.int .u64 E])).run Tryz.prog w=.ok () (w.setRow g (mcC { m with dv:=.slice p n c,mv:=.slice q l d,E:=E })) :=
 zeV w g 73 42 39 (mcC m) (mcC { m with dv:=.slice p n c,mv:=.slice q l d,E:=E }) #[.slice p n c,.slice q l d,.int .u64 E] k (by kernel_rfl) (by simp [Value.oneCell']) (by rw [zcv];show 73+3≤79;omega)
  (by
   show mcL { m with dv:=.slice p n c,mv:=.slice q l d,E:=E }=(mcL m).take 73 ++ _ ++ (mcL m).drop (73+3)
   unfold mcL
   rw [← List.append_assoc,← List.append_assoc]
   exact zfm (zbk m.h ++ (bdC m.b).toList) [m.dv,m.mv,.int .u64 m.E] [.int .u64 m.cnt,.int .u64 m.nxt,m.ov] [.slice p n c,.slice q l d,.int .u64 E] 73 3 (by rw [List.length_append,zcq,zdL]) rfl)
theorem MBox.ram {w:World} {g:Nat} {m:Mc} (k:MBox w g m):zbt w g 73 m.dv m.mv m.E:=⟨_,42,k,by decide,zdm m 0,zdm m 1,zdm m 2⟩
end Go.Proofs.YtmjjpgaeboaamaaGreatDoor
namespace Go.Proofs.YtmjjpgaeboaamaaGreatDoor.Tr
open Go.RowKit Go.Deep Go.Joins
theorem zad {B:Nat} {a b c:World} (h:Below B a b) (hB:B≤a.heap.size) (k:Below b.heap.size b c):Below B a c:=h.trans (k.mono (Nat.le_trans hB h.size))
def stV (v:Int):Int:=if (bits .and .u64 (bits .and .u64 v 924074 / 2048) 3==2)=true then bits .andNot .u64 (bits .and .u64 v 924074) 6144 else bits .and .u64 v 924074
def tbB (v:Int):Bool:=v / 1152921504606846976==0 || v / 1152921504606846976==8
def spV (w v:Int):Int:=if tbB v=true then bits .and .u64 v 17293840161288749055 else w
def U64 (x:Int):Prop:=0≤x∧x<18446744073709551616
def bitT (x:Int) (i:Nat):Bool:=(BitVec.ofInt 64 x).getLsbD i
theorem zdY (y:BitVec 64):BitVec.ofInt 64 (IntKind.u64.wrap (y.toNat:Int))=y:=by
 have h:=y.isLt
 have e:IntKind.u64.wrap (y.toNat:Int)=(y.toNat:Int):=by rw [IntKind.wrap_u64];omega
 rw [e,BitVec.ofInt_natCast]
 simp
theorem zfn (a b:Int):BitVec.ofInt 64 (bits .and .u64 a b)=BitVec.ofInt 64 a &&& BitVec.ofInt 64 b:=zdY _
theorem zfr (a b:Int):BitVec.ofInt 64 (bits .andNot .u64 a b)=BitVec.ofInt 64 a &&& ~~~BitVec.ofInt 64 b:=zdY _
theorem zdM (a b:Int) (i:Nat):bitT (bits .and .u64 a b) i=(bitT a i && bitT b i):=by unfold bitT;rw [zfn,BitVec.getLsbD_and]
theorem zg0 (a b:Int) (i:Nat) (hi:i<64):bitT (bits .andNot .u64 a b) i=(bitT a i && !bitT b i):=by
 unfold bitT
 rw [zfr,BitVec.getLsbD_and,BitVec.getLsbD_not]
 simp [hi]
theorem zag (op:BinOp) (a b:Int):U64 (bits op .u64 a b):=⟨bits_lo_u64 op a b,by have:=bits_hi_u64 op a b;omega⟩
theorem zdP (a b:Int) (ha:U64 a) (hb:U64 b) (h:∀ i,i<64→bitT a i=bitT b i):a=b:=by
 have e:BitVec.ofInt 64 a=BitVec.ofInt 64 b:=BitVec.eq_of_getLsbD_eq fun i hi=>h i hi
 obtain ⟨n,rfl⟩:=Int.eq_ofNat_of_zero_le ha.1
 obtain ⟨k,rfl⟩:=Int.eq_ofNat_of_zero_le hb.1
 have e2:=congrArg BitVec.toNat e
 rw [BitVec.ofInt_natCast,BitVec.ofInt_natCast,BitVec.toNat_ofNat,BitVec.toNat_ofNat] at e2
 have h1:=ha.2
 have h2:=hb.2
 omega
theorem zdF (i:Nat):bitT 0 i=false:=by unfold bitT;simp
theorem zap:U64 0:=⟨by omega,by omega⟩
theorem zhT (v:Int):U64 (stV v):=by
 unfold stV
 split <;> exact zag _ _ _
theorem zhv (u v:Int) (hu:U64 u):U64 (spV u v):=by
 unfold spV
 split
 ·exact zag _ _ _
 ·exact hu
theorem c2:∀ i,i<64→bitT 18446744073709551613 i=!bitT 2 i:=by decide +kernel
theorem c1:∀ i,i<64→bitT 18446744073709551614 i=!bitT 1 i:=by decide +kernel
theorem cL:∀ i,i<64→bitT 786722 i=true→bitT 924074 i=true:=by decide +kernel
theorem zeJ {B:Nat} {a w:World} (h:Below B a w) (n:Nat):Below B a (w.drewN n):=⟨h.os,h.tape,h.output,h.size,h.block⟩
end Go.Proofs.YtmjjpgaeboaamaaGreatDoor.Tr
namespace Go.Proofs.YtmjjpgaeboaamaaGreatDoor.Al
open Go.RowKit Go.Deep Go.Joins
set_option maxRecDepth 100000
theorem zah {k:IntKind} {a b:Int} (h:a=b):Ending.returned (.int k a)=.returned (.int k b):=by rw [h]
theorem zaO {a b:Int} {p q:Bool} (h:a=b) (g:p=q):Ending.returned (.tuple #[.int .u64 a,.bool p])=.returned (.tuple #[.int .u64 b,.bool q]):=by rw [h,g]
theorem zbu {a b:Bool} (h:a=b):Ending.returned (.bool a)=.returned (.bool b):=by rw [h]
def U64 (x:Int):Prop:=0≤x∧x<18446744073709551616
def uV (x:Int):Int:=IntKind.u64.wrap x
def zaX (x:Int):Int:=IntKind.u64.wrap (wrap32 x)
def lowV (x:Int):Int:=IntKind.u32.wrap x
theorem zeR (x:Int):uV x=x % 18446744073709551616:=IntKind.wrap_u64 x
theorem S_eq (x:Int):wrap64 x=(x+9223372036854775808) % 18446744073709551616 - 9223372036854775808:=by unfold wrap64;omega
theorem zjZ:wrap64 0=0:=by rw [S_eq];omega
theorem T_eq (x:Int):wrap32 x=(x+2147483648) % 4294967296 - 2147483648:=by unfold wrap32;omega
theorem zdd (x:Int):zaX x=((x+2147483648) % 4294967296 - 2147483648) % 18446744073709551616:=by unfold zaX;rw [IntKind.wrap_u64,T_eq]
theorem zel (x:Int):lowV x=x % 4294967296:=IntKind.wrap_u32 x
theorem zaw (x:Int):U64 (uV x):=by rw [zeR];unfold U64;omega
theorem zau (x:Int):U64 (zaX x):=by rw [zdd];unfold U64;omega
theorem zab (x:Int):U64 (lowV x):=by rw [zel];unfold U64;omega
theorem zb5 (n:Int) (W:World):TW 155 #[(.int .u64 n)] W (.int .u64 (zaX n)):=by
 go_enter Tryz.func155,Tryz.ntmps155
 go_wp2
 go_ret
 exact ⟨rfl,rfl⟩
theorem zew (a b:Int) (W:World):TW 210 #[(.int .u64 a),(.int .u64 b)] W (.bool (decide (wrap64 a<wrap64 b))):=by
 go_enter Tryz.func210,Tryz.ntmps210
 go_wp2
 go_ret
 exact ⟨rfl,rfl⟩
theorem zcR (n:Int) (W:World):TW 307 #[(.int .u64 n)] W (.int .u64 (lowV n)):=by
 go_enter Tryz.func307,Tryz.ntmps307
 go_wp2
 go_ret
 refine ⟨zah ?_,rfl⟩
 rw [zel]
def oneV (p:Bool):Int:=bif p then 1 else 0
theorem zgi (p:Bool) (W:World):TW 300 #[.bool p] W (.int .u64 (oneV p)):=by
 cases p
 ·go_enter Tryz.func300,Tryz.ntmps300
  go_wp2
  go_ret
  exact ⟨rfl,rfl⟩
 ·go_enter Tryz.func300,Tryz.ntmps300
  go_wp2
  go_ret
  exact ⟨rfl,rfl⟩
namespace MulN
theorem zgW (a:Nat) (ha:a<18446744073709551616):bits .and .u64 (a:Int) 4294967295=((a % 4294967296:Nat):Int):=by
 have h:=bits_and_u64_nat a 4294967295 ha (by omega)
 have e:a &&& 4294967295=a % 4294967296:=Nat.and_two_pow_sub_one_eq_mod a 32
 rw [e] at h
 exact h
theorem divN (a:Nat):(a:Int) / 4294967296=((a / 4294967296:Nat):Int):=by omega
theorem mulN (a b:Nat):(a:Int)*(b:Int)=((a*b:Nat):Int):=(Int.natCast_mul a b).symm
theorem addN (a b:Nat):(a:Int)+(b:Int)=((a+b:Nat):Int):=(Int.natCast_add a b).symm
theorem zdW (a:Nat) (ha:a<18446744073709551616):IntKind.u64.wrap (a:Int)=(a:Int):=by rw [IntKind.wrap_u64];omega
theorem zpx (a:Nat):IntKind.u64.wrap (a:Int)=((a % 18446744073709551616:Nat):Int):=by rw [IntKind.wrap_u64];omega
end MulN
open MulN in
theorem zvJ (x y:Nat) (hx:x<18446744073709551616) (hy:y<18446744073709551616) (W:World) :
  TW 318 #[.int .u64 x,.int .u64 y] W (.tuple #[.int .u64 ((x*y / 18446744073709551616:Nat):Int),.int .u64 ((x*y % 18446744073709551616:Nat):Int)]):=by
 obtain ⟨bd,bt,bw,hhi⟩:=Lib.mul64_hi x y hx hy
 have ba:=Lib.half_mul_le (a:=x / 4294967296) (b:=y / 4294967296) (by omega) (by omega)
 have bb:=Lib.half_mul_le (a:=x / 4294967296) (b:=y % 4294967296) (by omega) (by omega)
 have bc:=Lib.half_mul_le (a:=x % 4294967296) (b:=y / 4294967296) (by omega) (by omega)
 have ba':x / 4294967296*(y / 4294967296)<18446744073709551616:=by omega
 have bb':x / 4294967296*(y % 4294967296)<18446744073709551616:=by omega
 have bc':x % 4294967296*(y / 4294967296)<18446744073709551616:=by omega
 have bh1:x / 4294967296*(y / 4294967296)+(x / 4294967296*(y % 4294967296)+x % 4294967296*(y % 4294967296) / 4294967296) / 4294967296<18446744073709551616:=by omega
 have bh:x / 4294967296*(y / 4294967296)+(x / 4294967296*(y % 4294967296)+x % 4294967296*(y % 4294967296) / 4294967296) / 4294967296+((x / 4294967296*(y % 4294967296)+x % 4294967296*(y % 4294967296) / 4294967296) % 4294967296+x % 4294967296*(y / 4294967296)) / 4294967296<18446744073709551616:=by omega
 go_enter Tryz.func318,Tryz.ntmps318
 go_wp2
 simp only [zgW x hx,zgW y hy,divN,mulN,addN,zdW _ bd,zdW _ bb',zdW _ bt,zgW _ bt,zdW _ bc',zdW _ bw,zdW _ ba',zdW _ bh1,zdW _ bh,zpx (x*y)]
 rw [hhi]
 go_ret2
 exact ⟨rfl,rfl⟩
theorem zsb (x y:Int) (hx:U64 x) (hy:U64 y) (W:World):TW 318 #[(.int .u64 x),(.int .u64 y)] W (.tuple #[.int .u64 (x*y / 18446744073709551616),.int .u64 (uV (x*y))]):=by
 obtain ⟨a,rfl⟩:=Int.eq_ofNat_of_zero_le hx.1
 obtain ⟨b,rfl⟩:=Int.eq_ofNat_of_zero_le hy.1
 refine (zvJ a b (by have:=hx.2;omega) (by have:=hy.2;omega) W).mono ?_
 rintro e w ⟨rfl,rfl⟩
 refine ⟨?_,rfl⟩
 simp only [zeR,Int.natCast_ediv,Int.natCast_emod,Int.natCast_mul,Int.cast_ofNat_Int]
theorem zg2 (a b:Int) (ha:U64 a) (hb:U64 b) (W:World):TW 301 #[(.int .u64 a),(.int .u64 b)] W (.int .u64 (a*b / 18446744073709551616)):=by
 go_enter Tryz.func301,Tryz.ntmps301
 go_wp2_with (first | (go_at_call 318;(with_reducible refine (zsb a b ha hb _).mono ?_);rintro e w' ⟨rfl,rfl⟩) | fail)
 go_ret
 exact ⟨rfl,rfl⟩
def zdQ (a b:Int):Int:=bif decide (wrap64 a<0) then b else 0
theorem zrY (a b:Int) (h:decide (wrap64 a<0)=true) (W:World):TW 302 #[(.int .u64 a),(.int .u64 b)] W (.int .u64 b):=by
 have h0:decide (wrap64 a<wrap64 0)=true:=by rw [zjZ];exact h
 go_enter Tryz.func302,Tryz.ntmps302
 go_wp2_with (first | (go_at_call 210;(with_reducible refine (zew a 0 _).mono ?_);rintro e w' ⟨rfl,rfl⟩) | fail)
 go_ret
 exact ⟨rfl,rfl⟩
theorem znz (a b:Int) (h:decide (wrap64 a<0)=false) (W:World):TW 302 #[(.int .u64 a),(.int .u64 b)] W (.int .u64 0):=by
 have h0:decide (wrap64 a<wrap64 0)=false:=by rw [zjZ];exact h
 go_enter Tryz.func302,Tryz.ntmps302
 go_wp2_with (first | (go_at_call 210;(with_reducible refine (zew a 0 _).mono ?_);rintro e w' ⟨rfl,rfl⟩) | fail)
 go_ret
 exact ⟨rfl,rfl⟩
theorem ziY (a b:Int) (W:World):TW 302 #[(.int .u64 a),(.int .u64 b)] W (.int .u64 (zdQ a b)):=by
 unfold zdQ
 cases h:decide (wrap64 a<0)
 ·exact znz a b h W
 ·exact zrY a b h W
end Go.Proofs.YtmjjpgaeboaamaaGreatDoor.Al
namespace Go.Proofs.YtmjjpgaeboaamaaGreatDoor.Al
open Go.RowKit Go.Deep Go.Joins
set_option maxRecDepth 100000
def quV (a b:Int):Int:=if b=0 then 18446744073709551615 else a / b
def reV (a b:Int):Int:=if b=0 then a else a % b
def qsV (a b:Int):Int:=if b=0 then 18446744073709551615 else uV (wrap64 ((wrap64 a).tdiv (wrap64 b)))
def rsV (a b:Int):Int:=if b=0 then a else uV ((wrap64 a).tmod (wrap64 b))
theorem zaA (a b:Int) (ha:U64 a) (hb:U64 b):U64 (quV a b):=by
 unfold quV
 split
 ·exact ⟨by omega,by omega⟩
 ·obtain ⟨a,rfl⟩:=Int.eq_ofNat_of_zero_le ha.1
  obtain ⟨b,rfl⟩:=Int.eq_ofNat_of_zero_le hb.1
  have h1:=Nat.div_le_self a b
  have h2:(a:Int)<18446744073709551616:=ha.2
  rw [← Int.natCast_ediv]
  generalize a / b=q at *
  exact ⟨by omega,by omega⟩
theorem zaB (a b:Int) (ha:U64 a) (hb:U64 b):U64 (reV a b):=by
 unfold reV
 split
 ·exact ha
 ·obtain ⟨a,rfl⟩:=Int.eq_ofNat_of_zero_le ha.1
  obtain ⟨b,rfl⟩:=Int.eq_ofNat_of_zero_le hb.1
  have h1:=Nat.mod_le a b
  have h2:(a:Int)<18446744073709551616:=ha.2
  rw [← Int.natCast_emod]
  generalize a % b=q at *
  exact ⟨by omega,by omega⟩
theorem S_ne (b:Int) (hb:U64 b) (h:b≠0):wrap64 b≠0:=by
 rw [S_eq];have:=hb.1;have:=hb.2;omega
theorem zne (a b:Int) (ha:U64 a) (hb:U64 b) (h:b≠0):a.tdiv b=a / b∧uV (a / b)=a / b:=by
 have h1:=zaA a b ha hb
 unfold quV at h1
 rw [if_neg h] at h1
 refine ⟨Int.tdiv_eq_ediv_of_nonneg ha.1,?_⟩
 rw [zeR]
 have:=h1.1;have:=h1.2
 omega
theorem zkN (a b:Int) (ha:U64 a) (hb:U64 b) (h:b≠0):a.tmod b=a % b∧uV (a % b)=a % b:=by
 have h1:=zaB a b ha hb
 unfold reV at h1
 rw [if_neg h] at h1
 refine ⟨Int.tmod_eq_emod_of_nonneg ha.1,?_⟩
 rw [zeR]
 have:=h1.1;have:=h1.2
 omega
theorem zsD (a b:Int) (h:b=0) (W:World):TW 304 #[(.int .u64 a),(.int .u64 b)] W (.int .u64 18446744073709551615):=by
 subst h
 go_enter Tryz.func304,Tryz.ntmps304
 go_wp2
 go_ret
 exact ⟨rfl,rfl⟩
theorem zoP (a b:Int) (ha:U64 a) (hb:U64 b) (h:b≠0) (W:World):TW 304 #[(.int .u64 a),(.int .u64 b)] W (.int .u64 (a / b)):=by
 have p:(b==0)=false:=by rw [beq_eq_false_iff_ne];exact h
 go_enter Tryz.func304,Tryz.ntmps304
 go_wp2
 go_ret
 refine ⟨zah ?_,rfl⟩
 have E:=zne a b ha hb h
 rw [← E.2,E.1]
 rfl
theorem zhx (a b:Int) (ha:U64 a) (hb:U64 b) (W:World):TW 304 #[(.int .u64 a),(.int .u64 b)] W (.int .u64 (quV a b)):=by
 unfold quV
 by_cases h:b=0
 ·rw [if_pos h];exact zsD a b h W
 ·rw [if_neg h];exact zoP a b ha hb h W
theorem zpH (a b:Int) (h:b=0) (W:World):TW 306 #[(.int .u64 a),(.int .u64 b)] W (.int .u64 a):=by
 subst h
 go_enter Tryz.func306,Tryz.ntmps306
 go_wp2
 go_ret
 exact ⟨rfl,rfl⟩
theorem zp5 (a b:Int) (ha:U64 a) (hb:U64 b) (h:b≠0) (W:World):TW 306 #[(.int .u64 a),(.int .u64 b)] W (.int .u64 (a % b)):=by
 have p:(b==0)=false:=by rw [beq_eq_false_iff_ne];exact h
 go_enter Tryz.func306,Tryz.ntmps306
 go_wp2
 go_ret
 refine ⟨zah ?_,rfl⟩
 have E:=zkN a b ha hb h
 rw [← E.2,E.1]
 exact E.2.symm
theorem zjO (a b:Int) (ha:U64 a) (hb:U64 b) (W:World):TW 306 #[(.int .u64 a),(.int .u64 b)] W (.int .u64 (reV a b)):=by
 unfold reV
 by_cases h:b=0
 ·rw [if_pos h];exact zpH a b h W
 ·rw [if_neg h];exact zp5 a b ha hb h W
theorem znX (a b:Int) (h:b=0) (W:World):TW 303 #[(.int .u64 a),(.int .u64 b)] W (.int .u64 18446744073709551615):=by
 subst h
 go_enter Tryz.func303,Tryz.ntmps303
 go_wp2
 go_ret
 exact ⟨rfl,rfl⟩
theorem zk7 (a b:Int) (hb:U64 b) (h:b≠0) (W:World):TW 303 #[(.int .u64 a),(.int .u64 b)] W (.int .u64 (uV (wrap64 ((wrap64 a).tdiv (wrap64 b))))):=by
 have p:(b==0)=false:=by rw [beq_eq_false_iff_ne];exact h
 have p2:¬ wrap64 b=0:=S_ne b hb h
 go_enter Tryz.func303,Tryz.ntmps303
 go_wp2
 go_ret
 exact ⟨rfl,rfl⟩
theorem ziy (a b:Int) (hb:U64 b) (W:World):TW 303 #[(.int .u64 a),(.int .u64 b)] W (.int .u64 (qsV a b)):=by
 unfold qsV
 by_cases h:b=0
 ·rw [if_pos h];exact znX a b h W
 ·rw [if_neg h];exact zk7 a b hb h W
theorem zpi (a b:Int) (h:b=0) (W:World):TW 305 #[(.int .u64 a),(.int .u64 b)] W (.int .u64 a):=by
 subst h
 go_enter Tryz.func305,Tryz.ntmps305
 go_wp2
 go_ret
 exact ⟨rfl,rfl⟩
theorem zvR (a b:Int) (hb:U64 b) (h:b≠0) (W:World):TW 305 #[(.int .u64 a),(.int .u64 b)] W (.int .u64 (uV ((wrap64 a).tmod (wrap64 b)))):=by
 have p:(b==0)=false:=by rw [beq_eq_false_iff_ne];exact h
 have p2:¬ wrap64 b=0:=S_ne b hb h
 go_enter Tryz.func305,Tryz.ntmps305
 go_wp2
 go_ret
 exact ⟨rfl,rfl⟩
theorem ziA (a b:Int) (hb:U64 b) (W:World):TW 305 #[(.int .u64 a),(.int .u64 b)] W (.int .u64 (rsV a b)):=by
 unfold rsV
 by_cases h:b=0
 ·rw [if_pos h];exact zpi a b h W
 ·rw [if_neg h];exact zvR a b hb h W
end Go.Proofs.YtmjjpgaeboaamaaGreatDoor.Al
