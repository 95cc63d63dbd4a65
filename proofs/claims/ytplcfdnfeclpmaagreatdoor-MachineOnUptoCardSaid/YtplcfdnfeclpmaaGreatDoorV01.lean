/- MachineOn, part 1. -/
import Derived.Test.YtplcfdnfeclpmaaGreatDoorRows
import Derived.BigQuiet
import Derived.Carry
import Derived.ChangeMaps
import Derived.Deep.AppendSrc
import Derived.Deep.DeepCutAuto
import Derived.Deep.RegionHeld3
import Derived.Deep.RegionLaw
import Derived.Deep.RegionWith
import Derived.Deep.Slices
import Derived.JoinedCond
import Derived.Laws.AppendOwnNone
import Derived.Laws.CopyOwn
import Derived.Laws.IdiomStrings
import Derived.Lib.Hide
import Derived.Lib.SmallJoins
import Derived.OpenShut
import Derived.ProofKit
import Derived.SizedLaws
import Derived.StillTailTactics
import Derived.WalkKit
import Derived.WalkLawsBesides
import Derived.Laws.Bits64b
import Derived.IntWalk
import Derived.Laws.OwnMore
set_option maxHeartbeats 4000000
set_option maxRecDepth 100000
open Go.Lib (hid)
open Go Go.RowKit Go.Deep Go.Joins Go.Proofs.Tryz
namespace Go
abbrev Tw (W:World) (v:Value):Ending→World→Prop:=fun e W'=>e=.returned v∧W=W'
abbrev Tb (W:World) (v:Value):Ending→World→Prop:=fun e W'=>e=.returned v∧RowKit.Below W.heap.size W W'
theorem Calls.tq {p : Program} {f : FuncId} {a : Array Value} {W : World} {v : Value} {Q : Ending → World → Prop} (h : Calls p f a W (Tw W v)) (q : Q (.returned v) W) : Calls p f a W Q := h.mono fun _ _ k => k.1 ▸ k.2 ▸ q
end Go
namespace Go.Proofs.YtplcfdnfeclpmaaGreatDoor
abbrev TW (f:FuncId) (a:Array Value) (W:World) (v:Value):Prop:=Calls Tryz.prog f a W (Tw W v)
abbrev TB (f:FuncId) (a:Array Value) (W:World) (v:Value):Prop:=Calls Tryz.prog f a W (Tb W v)
end Go.Proofs.YtplcfdnfeclpmaaGreatDoor
namespace Go.Proofs.YtplcfdnfeclpmaaGreatDoor
theorem zaT {a b:Bool} (h:a=b):Ending.returned (.bool a)=.returned (.bool b):=by rw [h]
theorem zam {k:IntKind} {a b:Int} (h:a=b):Ending.returned (.int k a)=.returned (.int k b):=by rw [h]
theorem zqz {a b:ByteArray} (h:a=b):Ending.returned (.string a)=.returned (.string b):=by rw [h]
def zaW (w:World) (v:Value) (size n:Nat) (cells:List Value):Prop :=
 cells.length=n*size∧((v=.slice none 0 0∧n=0) ∨
  ∃ a cap,v=.slice (some a) n cap∧n≤cap∧cap≤maxLen∧∀ j u,cells[j]?=some u→w.cell? (a.add j)=some u)
theorem zj9 {w:World} {a:Addr} {v:Value} (h:w.cell? a=some v):a.block<w.heap.size:=World.block_lt_of_cell? w a h
theorem zxC {w w':World} {a:Addr} {v:Value} (hb:Below w.heap.size w w') (h:w.cell? a=some v):w'.cell? a=some v :=
 (hb.cell (zj9 h)).trans h
theorem zaW.below {w w':World} {v:Value} {size n:Nat} {cells:List Value} (h:zaW w v size n cells) (hb:Below w.heap.size w w'):zaW w' v size n cells:=by
 obtain ⟨hl,h⟩:=h;refine ⟨hl,?_⟩
 rcases h with h | ⟨a,cap,hv,h1,h2,hc⟩
 ·exact .inl h
 ·exact .inr ⟨a,cap,hv,h1,h2,fun j u hu=>zxC hb (hc j u hu)⟩
theorem zaW.is {w:World} {v:Value} {size n:Nat} {cells:List Value} (h:zaW w v size n cells):∃ p cap,v=.slice p n cap:=by
 rcases h.2 with ⟨rfl,rfl⟩ | ⟨a,cap,rfl,_⟩
 ·exact ⟨_,_,rfl⟩
 ·exact ⟨_,_,rfl⟩
theorem zr6 {w:World} {a:Addr} {v:Value} (h:w.cell? a=some v):a.spot=none:=by
 unfold World.cell? at h
 split at h
 ·split at h
  ·cases h
  ·rename_i hs;simpa using hs
 ·cases h
theorem zdx (b off j:Nat):(⟨b,off,none⟩:Addr).add j=⟨b,off+j,none⟩:=by
 unfold Addr.add;split <;> simp_all
theorem zaW.at {w:World} {v:Value} {size n:Nat} {cells:List Value} (h:zaW w v size n cells) (h0:0<n*size) :
  ∃ b off cap,v=.slice (some ⟨b,off,none⟩) n cap∧n≤cap∧cap≤maxLen∧b<w.heap.size∧∀ j u,cells[j]?=some u→w.cell? ⟨b,off+j,none⟩=some u:=by
 obtain ⟨hl,h⟩:=h;rcases h with ⟨_,rfl⟩ | ⟨a,cap,hv,h1,h2,hc⟩
 ·omega
 ·obtain ⟨u,hu⟩:∃ u,cells[0]?=some u:=⟨cells[0]'(by omega),List.getElem?_eq_getElem _⟩
  have hc0:=hc 0 u hu;have ha0:a.add 0=a:=by simp [Addr.add]
  rw [ha0] at hc0;have hs:=zr6 hc0;have hb:=zj9 hc0;obtain ⟨b,off,spot⟩:=a
  dsimp at hs hb
  subst hs;exact ⟨b,off,cap,hv,h1,h2,hb,fun j u hu=>by rw [← zdx];exact hc j u hu⟩
theorem zag (w:World) (a:Obj):Below w.heap.size w (w.alloc a):=(Below.refl _ _).alloc (Nat.le_refl _) _
theorem zbj (w:World) (a b:Obj):Below w.heap.size w ((w.alloc a).alloc b):=(zag w a).alloc (by simp) _
theorem zac {w w1 w2:World} (h:Below w.heap.size w w1) (h2:Below w1.heap.size w1 w2):Below w.heap.size w w2:=h.trans (h2.mono h.size)
def dC (l:List UInt8):List Value:=l.map fun b=>.int .u8 b.toNat
def mC (l:List Int):List Value:=l.map fun m=>.int .u64 m
theorem zeU (l:List UInt8):(dC l).length=l.length:=List.length_map _
theorem zkN (l:List Int):(mC l).length=l.length:=List.length_map _
def DAt (w:World) (v:Value) (D:List UInt8):Prop:=zaW w v 1 D.length (dC D)
def MAt (w:World) (v:Value) (M:List Int):Prop:=zaW w v 1 M.length (mC M)
theorem DAt.below {w w':World} {v:Value} {D:List UInt8} (h:DAt w v D) (hb:Below w.heap.size w w'):DAt w' v D:=zaW.below h hb
theorem MAt.below {w w':World} {v:Value} {M:List Int} (h:MAt w v M) (hb:Below w.heap.size w w'):MAt w' v M:=zaW.below h hb
theorem DAt.le {w:World} {v:Value} {D:List UInt8} (h:DAt w v D):D.length≤9223372036854775807:=by
 rcases h.2 with ⟨_,h⟩ | ⟨a,cap,_,h1,h2,_⟩
 ·omega
 ·unfold maxLen at h2;omega
theorem MAt.le {w:World} {v:Value} {D:List Int} (h:MAt w v D):D.length≤9223372036854775807:=by
 rcases h.2 with ⟨_,h⟩ | ⟨a,cap,_,h1,h2,_⟩
 ·omega
 ·unfold maxLen at h2;omega
def zbV (n:Nat) (t size:Int):Bool:=decide (0≤size) && decide (2147483648≤t) && decide (t - 2147483648+size≤n)
theorem zdX {n:Nat} {t size:Int}:zbV n t size=true ↔ 0≤size∧2147483648≤t∧t - 2147483648+size≤n:=by
 unfold zbV;simp [and_assoc]
theorem zg7 {n:Nat} {t size:Int}:zbV n t size=false ↔ ¬ (0≤size∧2147483648≤t∧t - 2147483648+size≤n):=by
 rw [← zdX];simp
theorem zqb (t:Int) (h0:0≤t) (h1:t<2147483648):IntKind.u64.wrap (t - 2147483648)=t - 2147483648+18446744073709551616:=by
 rw [IntKind.wrap_u64];omega
theorem zeS (p:Option Addr) (n cap:Nat) (mv ev:Value) (t size:Int) (w:World) (hn:n≤9223372036854775807) (ht0:0≤t) (ht1:t≤18446744073709551615) (hs0:-9223372036854775808≤size) (hs1:size≤9223372036854775807) :
  TB 196 #[.agg #[.slice p n cap,mv,ev],.int .u64 t,.int .i64 size] w (.bool (zbV n t size)):=by
 by_cases h0:size<0
 ·have E:=hid ((zg7 (n:=n) (t:=t) (size:=size)).2 (by omega))
  go_enter func196,ntmps196
  go_wp2
  go_ret;exact ⟨zaT E.out.symm,(Below.refl _ _).alloc (Nat.le_refl _) _⟩
 by_cases h1:(n:Int)<size
 ·have E:=hid ((zg7 (n:=n) (t:=t) (size:=size)).2 (by omega))
  go_enter func196,ntmps196
  go_wp2
  go_ret;exact ⟨zaT E.out.symm,(Below.refl _ _).alloc (Nat.le_refl _) _⟩
 by_cases h2:t<2147483648
 ·have E:=hid ((zg7 (n:=n) (t:=t) (size:=size)).2 (by omega))
  have F:=hid (zqb t ht0 h2);go_enter func196,ntmps196
  go_wp2
  go_ret;exact ⟨zaT (by rw [E.out,F.out];exact decide_eq_false (by omega)),(Below.refl _ _).alloc (Nat.le_refl _) _⟩
 ·by_cases h3:t - 2147483648+size≤n
  ·have E:=hid ((zdX (n:=n) (t:=t) (size:=size)).2 (by omega))
   go_enter func196,ntmps196
   go_wp2
   go_ret;exact ⟨zaT (by rw [E.out];exact decide_eq_true (by omega)),(Below.refl _ _).alloc (Nat.le_refl _) _⟩
  ·have E:=hid ((zg7 (n:=n) (t:=t) (size:=size)).2 (by omega))
   go_enter func196,ntmps196
   go_wp2
   go_ret;exact ⟨zaT (by rw [E.out];exact decide_eq_false (by omega)),(Below.refl _ _).alloc (Nat.le_refl _) _⟩
def zdd (size:Int):Bool:=decide (size=1∨size=2∨size=4∨size=8)
theorem zhm (size:Int) (w:World):TW 195 #[.int .i64 size] w (.bool (zdd size)):=by
 go_enter func195,ntmps195
 go_wp2
 all_goals go_ret
 all_goals refine ⟨zaT ?_,rfl⟩
 all_goals (unfold zdd;apply Bool.eq_iff_iff.2;simp only [Bool.or_eq_true,decide_eq_true_eq,beq_iff_eq];try (first | omega | (simp only [true_iff];omega)))
def le:List UInt8→Nat
 | []=>0
 | b :: l=>le l*256+b.toNat
theorem zid (l:List UInt8):le l<256 ^ l.length:=by
 induction l with
 | nil=>simp [le]
 | cons b l ih =>
  have hb:b.toNat<256:=b.toNat_lt;simp only [le,List.length_cons,Nat.pow_succ];omega
theorem zq0 (L:List UInt8) (i:Nat) (h:i<L.length):le (L.drop i)=le (L.drop (i+1))*256+L[i].toNat:=by
 rw [List.drop_eq_getElem_cons h];rfl
theorem zws (N:Nat) (c:UInt8) (h:N*256+c.toNat<18446744073709551616) :
  bits .or .u64 (IntKind.u64.wrap ((N:Int)*256)) (IntKind.u64.wrap (c.toNat:Int))=((N*256+c.toNat:Nat):Int):=by
 have hc:c.toNat<256:=c.toNat_lt;rw [IntWalk.u64_in _ (by omega),IntWalk.u64_in _ (by omega)];have h1:=bits_or_u64_nat (N*256) c.toNat (Nat.lt_of_le_of_lt (Nat.le_add_right _ _) h) (Nat.lt_of_le_of_lt (Nat.le_add_left _ _) h);have hh:((N:Int)*256)=((N*256:Nat):Int):=by simp
 rw [hh,h1];have h2:=Nat.two_pow_add_eq_or_of_lt (i:=8) (b:=c.toNat) (by omega) N;have h3:(2:Nat) ^ 8=256:=rfl;rw [h3] at h2;rw [Nat.mul_comm N 256,← h2]
theorem ztl (D:List UInt8) (k s i:Nat) (hs:s≤8) (h:k+s≤D.length) (hi:i+1≤s) :
  bits .or .u64 (IntKind.u64.wrap ((le (((D.drop k).take s).drop (i+1)):Int)*256)) (IntKind.u64.wrap ((D[k+i]?.getD 0).toNat:Int))=(le (((D.drop k).take s).drop i):Nat):=by
 have hl:((D.drop k).take s).length=s:=by simp;omega
 have e:=zq0 ((D.drop k).take s) i (by omega)
 have e2:((D.drop k).take s)[i]'(by omega)=D[k+i]?.getD 0:=by
  rw [List.getElem_take,List.getElem_drop,List.getElem?_eq_getElem (by omega)];rfl
 rw [e2] at e;have hb:=zid (((D.drop k).take s).drop i);have hp:256 ^ (((D.drop k).take s).drop i).length≤256 ^ 8:=Nat.pow_le_pow_right (by omega) (by rw [List.length_drop,hl];omega);rw [zws _ _ (by rw [← e];omega),e]
theorem DAt.cell {w:World} {v:Value} {D:List UInt8} (h:DAt w v D) (h0:0<D.length) :
  ∃ b off cap,v=.slice (some ⟨b,off,none⟩) D.length cap∧D.length≤cap∧cap≤maxLen∧b<w.heap.size∧∀ j (hj:j<D.length),w.cell? ⟨b,off+j,none⟩=some (.int .u8 (D[j].toNat:Int)):=by
 obtain ⟨b,off,cap,h1,h2,h3,h4,h5⟩:=zaW.at h (by omega);exact ⟨b,off,cap,h1,h2,h3,h4,fun j hj=>h5 j _ (by simp [dC,hj])⟩
theorem zhW (v:Value) (D:List UInt8) (mv ev:Value) (t size:Int) (w:World) (hd:DAt w v D) (ht0:0≤t) (ht1:t≤18446744073709551615) (hl:zdd size=true) (hth:zbV D.length t size=true) :
  TB 138 #[.agg #[v,mv,ev],.int .u64 t,.int .i64 size] w (.tuple #[.int .u64 (le ((D.drop (t - 2147483648).toNat).take size.toNat)),.int .i64 0]):=by
 have hn:=hd.le;obtain ⟨h0,h1,h2⟩:=zdX.1 hth;have hs:1≤size∧size≤8:=by unfold zdd at hl;simp at hl;omega
 obtain ⟨b,off,cap,rfl,_,_,hb,hc⟩:=hd.cell (by omega);have HL:=hid hl;have HT:=hid hth;have HC:=hid hc;clear hl hth hc;obtain ⟨s,rfl⟩:∃ s:Nat,size=s:=⟨size.toNat,by omega⟩;obtain ⟨k,rfl⟩:∃ k:Nat,t=k+2147483648:=⟨(t - 2147483648).toNat,by omega⟩;go_enter func138,ntmps138;go_wp2_with fail;refine (zhm _ _).mono ?_
 rintro e w1 ⟨rfl,rfl⟩
 rw [HL.out];go_wp2_with fail;refine (zeS _ _ _ _ _ _ _ _ hn (by omega) (by omega) (by omega) (by omega)).mono ?_
 rintro e w1 ⟨rfl,hb1⟩
 rw [HT.out];have hbw:=zac (zag w _) hb1;have f0:=hb1.cell (p:=⟨w.heap.size,0,none⟩) (by simp);rw [World.cell?_alloc_new] at f0;have HB:=hid hbw;clear hbw hb1;go_wp2_with fail
 have f1:∀ j,j<D.length→w1.cell? ⟨b,off+j,none⟩=some (.int .u8 ((D.getD j 0).toNat:Int)):=fun j hj=>by
  rw [HB.out.cell (p:=⟨b,off+j,none⟩) hb,HC.out j hj,List.getD_eq_getElem?_getD,List.getElem?_eq_getElem hj];rfl
 have F1:=hid f1;clear f1;have hx:∀ j,((D.drop k).take s).length≤j→le (((D.drop k).take s).drop j)=0:=fun j hj=>by rw [List.drop_eq_nil_of_le hj];rfl
 have hlen:((D.drop k).take s).length=s:=by simp;omega
 have HX:=hid hx;have HLEN:=hid hlen;clear hx hlen
 go_loop [8,10] (fun n i=>∃ j:Nat,j≤s∧i=.int .i64 j∧n=.int .u64 (le (((D.drop k).take s).drop j))) (fun _ i=>(intOf i).toNat)
 case atStart=>exact ⟨s,Nat.le_refl _,rfl,by rw [HX.out s (by rw [HLEN.out];omega)];rfl⟩
 case round =>
  obtain ⟨j,hj,rfl,rfl⟩:=hrel
  by_cases hj0:0<j
  ·have g1:=F1.out (k+(j - 1)) (by omega)
   obtain ⟨i,rfl⟩:∃ i,j=i+1:=⟨j - 1,by omega⟩;simp only [Nat.add_sub_cancel] at g1;have hstep:=hid (ztl D k s i (by omega) (by omega) hj);generalize le (((D.drop k).take s).drop (i+1))=N at *;generalize hM:le (((D.drop k).take s).drop i)=M at *;have HM:=hid hM;clear hM;go_wp2_with fail;exact ⟨⟨i,by omega,rfl,by rw [hstep.out,HM.out]⟩,by simp [intOf]⟩
  ·obtain rfl:j=0:=by omega
   go_wp2
   go_ret2;exact ⟨rfl,HB.out⟩
theorem zyN (v:Value) (mv ev:Value) (t size:Int) (w:World) (hl:zdd size=false) :
  TB 138 #[.agg #[v,mv,ev],.int .u64 t,.int .i64 size] w (.tuple #[.int .u64 0,.int .i64 1]):=by
 have HL:=hid hl;clear hl;go_enter func138,ntmps138;go_wp2_with fail;refine (zhm _ _).mono ?_
 rintro e w1 ⟨rfl,rfl⟩
 rw [HL.out];go_wp2_with fail;go_ret2;exact ⟨rfl,zag w _⟩
theorem load_ram (p:Option Addr) (n cap:Nat) (mv ev:Value) (t size:Int) (w:World) (hn:n≤9223372036854775807) (ht0:0≤t) (ht1:t≤18446744073709551615) (hl:zdd size=true) (hth:zbV n t size=false) :
  TB 138 #[.agg #[.slice p n cap,mv,ev],.int .u64 t,.int .i64 size] w (.tuple #[.int .u64 0,.int .i64 50]):=by
 have hs:1≤size∧size≤8:=by unfold zdd at hl;simp at hl;omega
 have HL:=hid hl;have HT:=hid hth;clear hl hth;go_enter func138,ntmps138;go_wp2_with fail;refine (zhm _ _).mono ?_
 rintro e w1 ⟨rfl,rfl⟩
 rw [HL.out];go_wp2_with fail;refine (zeS _ _ _ _ _ _ _ _ hn (by omega) (by omega) (by omega) (by omega)).mono ?_
 rintro e w1 ⟨rfl,hb1⟩
 rw [HT.out];have hbw:=zac (zag w _) hb1;go_wp2_with fail;go_ret2;exact ⟨rfl,hbw⟩
def zeM (D:List UInt8) (k s:Nat):ByteArray:=⟨((D.drop k).take s).toArray⟩
theorem zzg (v:Value) (mv ev:Value) (t:Int) (w:World) :
  TB 221 #[.agg #[v,mv,ev],.int .u64 t,.int .i64 0] w (.tuple #[.string ⟨#[]⟩,.int .i64 0]):=by
 go_enter func221,ntmps221;go_wp2_with fail;go_ret2;exact ⟨rfl,zag w _⟩
theorem zyO (p:Option Addr) (n cap:Nat) (mv ev:Value) (t size:Int) (w:World) (hn:n≤9223372036854775807) (ht0:0≤t) (ht1:t≤18446744073709551615) (hs0:-9223372036854775808≤size) (hs1:size≤9223372036854775807) (h0:size≠0)
  (hth:zbV n t size=false) :
  TB 221 #[.agg #[.slice p n cap,mv,ev],.int .u64 t,.int .i64 size] w (.tuple #[.string ⟨#[]⟩,.int .i64 50]):=by
 have h0':(size==0)=false:=by simpa using h0
 have HT:=hid hth;clear hth;go_enter func221,ntmps221;go_wp2_with fail;refine (zeS _ _ _ _ _ _ _ _ hn (by omega) (by omega) (by omega) (by omega)).mono ?_
 rintro e w1 ⟨rfl,hb1⟩
 rw [HT.out];have hbw:=zac (zag w _) hb1;go_wp2_with fail;go_ret2;exact ⟨rfl,hbw⟩
theorem zlU (v:Value) (D:List UInt8) (mv ev:Value) (t size:Int) (w:World) (hd:DAt w v D) (ht0:0≤t) (ht1:t≤18446744073709551615) (hs1:size≤9223372036854775807) (h0:0<size)
  (hth:zbV D.length t size=true) :
  TB 221 #[.agg #[v,mv,ev],.int .u64 t,.int .i64 size] w (.tuple #[.string (zeM D (t - 2147483648).toNat size.toNat),.int .i64 0]):=by
 have hn:=hd.le;obtain ⟨h00,h1,h2⟩:=zdX.1 hth;have h0':(size==0)=false:=by simp;omega
 obtain ⟨b,off,cap,rfl,hcap,hmax,hb,hc⟩:=hd.cell (by omega);have HT:=hid hth;have HC:=hid hc;unfold maxLen at hmax;clear hth hc;obtain ⟨s,rfl⟩:∃ s:Nat,size=s:=⟨size.toNat,by omega⟩;obtain ⟨k,rfl⟩:∃ k:Nat,t=k+2147483648:=⟨(t - 2147483648).toNat,by omega⟩;have e1:((k:Int)+2147483648 - 2147483648).toNat=k:=by omega
 rw [e1,Int.toNat_natCast];clear e1;go_enter func221,ntmps221;go_wp2_with fail;refine (zeS _ _ _ _ _ _ _ _ hn (by omega) (by omega) (by omega) (by omega)).mono ?_
 rintro e w1 ⟨rfl,hb1⟩
 rw [HT.out];have hbw:=zac (zag w _) hb1;have f0:=hb1.cell (p:=⟨w.heap.size,0,none⟩) (by simp);rw [World.cell?_alloc_new] at f0;have HB:=hid hbw;clear hbw hb1;have hl:((D.drop k).take s).length=s:=by simp;omega
 have hcv:∀ cap',(convert 36 9 (.slice (some ⟨b,off+k,none⟩) s cap')).run Tryz.prog w1=.ok (.string (zeM D k s)) w1:=fun cap'=>by
  have h:=run_convert_bytes_back (P:=Tryz.prog) w1 36 9 5 ⟨b,off+k,none⟩ cap' ((D.drop k).take s) underlying36 underlying5 underlying9 (fun j hj=>by
   rw [zdx,List.getElem_take,List.getElem_drop,HB.out.cell (p:=⟨b,off+k+j,none⟩) hb,Nat.add_assoc];exact HC.out (k+j) (by omega))
  rw [hl] at h;exact h
 have hcv1:=hcv (cap - k);clear hl hcv;go_wp2_with fail;go_ret2;exact ⟨rfl,HB.out⟩
theorem zdI (w:World) (o:Obj):(w.alloc o).heap[w.heap.size]?=some o:=by
 show (w.heap.push o)[w.heap.size]?=_
 rw [Array.getElem?_push,if_pos rfl]
theorem zf4 {w:World} (o:Obj) {k:Nat} (h:k<w.heap.size):(w.alloc o).heap[k]?=w.heap[k]?:=Below.heap_alloc _ _ _ h
structure zau (w w':World) (S:Nat→Prop):Prop where
 os:w'.os=w.os
 tape:w'.tape=w.tape
 output:w'.output=w.output
 size:w.heap.size≤w'.heap.size
 block:∀ k,k<w.heap.size→¬ S k→w'.heap[k]?=w.heap[k]?
theorem zau.refl (w:World) (S:Nat→Prop):zau w w S:=⟨rfl,rfl,rfl,Nat.le_refl _,fun _ _ _=>rfl⟩
theorem zau.trans {a b c:World} {S:Nat→Prop} (h:zau a b S) (k:zau b c S):zau a c S :=
 ⟨k.os.trans h.os,k.tape.trans h.tape,k.output.trans h.output,Nat.le_trans h.size k.size,fun i hi hs=>(k.block i (Nat.lt_of_lt_of_le hi h.size) hs).trans (h.block i hi hs)⟩
theorem zau.mono {w w':World} {S T:Nat→Prop} (h:zau w w' S) (hST:∀ k,k<w.heap.size→S k→T k):zau w w' T :=
 ⟨h.os,h.tape,h.output,h.size,fun k hk ht=>h.block k hk fun hs=>ht (hST k hk hs)⟩
theorem zau.drew {a w:World} {S:Nat→Prop} (h:zau a w S):zau a w.drew S:=⟨h.os,h.tape,h.output,h.size,h.block⟩
theorem zau.setCell {a w:World} {S:Nat→Prop} (h:zau a w S) {p:Addr} (hp:S p.block∨a.heap.size≤p.block) (u:Value):zau a (w.setCell p u) S :=
 ⟨h.os,h.tape,h.output,by simp [World.setCell];exact h.size,fun k hk hs=>(Below.heap_setCell _ _ _ _ (fun e=>by
  rcases hp with hp | hp
  ·exact hs (e ▸ hp)
  ·omega)).trans (h.block k hk hs)⟩
theorem zau.setRow {a w:World} {S:Nat→Prop} (h:zau a w S) {g:Nat} (hp:S g∨a.heap.size≤g) (cs:Array Value):zau a (w.setRow g cs) S :=
 ⟨h.os,h.tape,h.output,by rw [size_setRow];exact h.size,fun k hk hs=>(setRow_other w g k cs (fun e=>by
  rcases hp with hp | hp
  ·exact hs (e ▸ hp)
  ·omega)).trans (h.block k hk hs)⟩
theorem zcr {w w':World} (h:Below w.heap.size w w') (S:Nat→Prop):zau w w' S:=⟨h.os,h.tape,h.output,h.size,fun k hk _=>h.block k hk⟩
theorem zau.below {a w w':World} {S:Nat→Prop} {B:Nat} (hb:Below B a w) (h:zau w w' S) (hS:∀ k,S k→B≤k) (hB:B≤w.heap.size):Below B a w' :=
 hb.trans ⟨h.os,h.tape,h.output,h.size,fun k hk=>h.block k (by omega) fun hs=>by have:=hS k hs;omega⟩
def OwnD (w:World) (B:Nat) (v:Value) (D:List UInt8):Prop:=w.ownsRow B 5 1 v D.length (dC D)
def OwnM (w:World) (B:Nat) (v:Value) (M:List Int):Prop:=w.ownsRow B 22 1 v M.length (mC M)
theorem ze2 {w:World} {B n size:Nat} {e:TypeId} {v:Value} {xs:List Value} (h:w.ownsRow B e size v n xs):zaW w v size n xs:=by
 refine ⟨h.1,?_⟩
 rcases h.2 with h2 | ⟨g,cap,cur,hv,hB,hg,h3,h4,h5,h6⟩
 ·exact .inl h2
 ·refine .inr ⟨⟨g,0,none⟩,cap,hv,h3,h4,fun j u hu=>?_⟩
  exact h.cells (g:=g) (by rw [hv];rfl) j u hu
theorem OwnD.at {w:World} {B:Nat} {v:Value} {D:List UInt8} (h:OwnD w B v D):DAt w v D:=ze2 h
theorem OwnM.at {w:World} {B:Nat} {v:Value} {M:List Int} (h:OwnM w B v M):MAt w v M:=ze2 h
theorem zbW {w w':World} {B n size:Nat} {e:TypeId} {v:Value} {xs:List Value} (h:w.ownsRow B e size v n xs) (hk:∀ g,v.ownBlock=some g→w'.heap[g]?=w.heap[g]?):w'.ownsRow B e size v n xs:=by
 refine ⟨h.1,?_⟩
 rcases h.2 with h2 | ⟨g,cap,cur,h1,h2,h3,r⟩
 ·exact .inl h2
 ·exact .inr ⟨g,cap,cur,h1,h2,(hk g (by rw [h1];rfl)).trans h3,r⟩
theorem zcy {w:World} {B n size:Nat} {e:TypeId} {v:Value} {xs:List Value} (h:w.ownsRow B e size v n xs) {g:Nat} (hg:v.ownBlock=some g):B≤g∧g<w.heap.size:=h.lt g hg
theorem zcf {w w':World} {B n size:Nat} {e:TypeId} {v:Value} {xs:List Value} (h:w.ownsRow B e size v n xs) (hb:Below w.heap.size w w'):w'.ownsRow B e size v n xs :=
 zbW h fun _ hg=>hb.block _ (zcy h hg).2
theorem OwnD.below {w w':World} {B:Nat} {v:Value} {D:List UInt8} (h:OwnD w B v D) (hb:Below w.heap.size w w'):OwnD w' B v D:=zcf h hb
theorem OwnM.below {w w':World} {B:Nat} {v:Value} {M:List Int} (h:OwnM w B v M) (hb:Below w.heap.size w w'):OwnM w' B v M:=zcf h hb
theorem zc1 {w w':World} {B n size:Nat} {e:TypeId} {v:Value} {xs:List Value} {S:Nat→Prop} (h:w.ownsRow B e size v n xs) (hb:zau w w' S) (hS:∀ g,v.ownBlock=some g→¬ S g):w'.ownsRow B e size v n xs :=
 zbW h fun g hg=>hb.block _ (zcy h hg).2 (hS g hg)
theorem zdD {w:World} {B B' n size:Nat} {e:TypeId} {v:Value} {xs:List Value} (h:w.ownsRow B e size v n xs) (hB:B'≤B):w.ownsRow B' e size v n xs:=by
 refine ⟨h.1,?_⟩
 rcases h.2 with h2 | ⟨g,cap,cur,h1,h2,r⟩
 ·exact .inl h2
 ·exact .inr ⟨g,cap,cur,h1,Nat.le_trans hB h2,r⟩
theorem zdp {w:World} {B n size g:Nat} {e:TypeId} {v:Value} {xs:List Value} (h:w.ownsRow B e size v n xs) (hg:v.ownBlock=some g):∃ cur,w.heap[g]?=some (.cells cur e (0,0)):=by
 rcases h.2 with ⟨h1,_⟩ | ⟨g',cap,cur,h1,_,h2,_⟩
 ·rw [h1] at hg;cases hg
 ·rw [h1] at hg
  simp only [Value.ownBlock,Option.some.injEq] at hg;subst hg;exact ⟨cur,h2⟩
theorem ze4 {w:World} {B B2 n m s1 s2 g:Nat} {e1 e2:TypeId} {v u:Value} {xs ys:List Value} (h:w.ownsRow B e1 s1 v n xs) (k:w.ownsRow B2 e2 s2 u m ys) (hne:e1≠e2) (hg:v.ownBlock=some g):u.ownBlock≠some g:=by
 intro hu;obtain ⟨c1,h1⟩:=zdp h hg;obtain ⟨c2,h2⟩:=zdp k hu;rw [h1] at h2;simp only [Option.some.injEq,Obj.cells.injEq] at h2;exact hne h2.2.1
theorem zb8 {w:World} {B n size pb:Nat} {e t:TypeId} {v:Value} {xs:List Value} {c:Array Value} (h:w.ownsRow B e size v n xs) (hp:w.heap[pb]?=some (.cells c t (0,0))) (hne:e≠t):v.ownBlock≠some pb:=by
 intro hb;obtain ⟨c2,h2⟩:=zdp h hb;rw [hp] at h2;simp only [Option.some.injEq,Obj.cells.injEq] at h2;exact hne h2.2.1.symm
theorem zch {w:World} {B n size:Nat} {e:TypeId} {v:Value} {xs:List Value} (h:w.ownsRow B e size v n xs):∃ p cap,v=.slice p n cap:=by
 rcases h.2 with ⟨h1,h2⟩ | ⟨g,cap,_,h1,_⟩
 ·exact ⟨_,_,h2 ▸ h1⟩
 ·exact ⟨_,_,h1⟩
theorem zf9 {w:World} {B n g:Nat} {e:TypeId} {cur:Array Value} (hB:B≤g) (hg:w.heap[g]?=some (.cells cur e (0,0))) (hn:cur.size=n) (hm:n≤maxLen):w.ownsRow B e 1 (.slice (some ⟨g,0,none⟩) n n) n cur.toList :=
 ⟨by rw [Array.length_toList,hn,Nat.mul_one],.inr ⟨g,n,cur,rfl,hB,hg,Nat.le_refl _,hm,by omega,by rw [Nat.mul_one,← hn,← Array.length_toList,List.take_length]⟩⟩
def zca (w:World) (z:Nat) (dv mv:Value) (E:Int):Prop:=w.heap[z]?=some (.cells #[dv,mv,.int .u64 E] 39 (0,0))
theorem zca.lt {w:World} {z:Nat} {dv mv:Value} {E:Int} (h:zca w z dv mv E):z<w.heap.size:=(Array.getElem?_eq_some_iff.1 h).1
theorem zca.cells {w:World} {z:Nat} {dv mv:Value} {E:Int} (h:zca w z dv mv E) :
  w.cell? ⟨z,0,none⟩=some dv∧w.cell? ⟨z,1,none⟩=some mv∧w.cell? ⟨z,2,none⟩=some (.int .u64 E):=by
 refine ⟨?_,?_,?_⟩ <;> rw [cell_of_row w z _ _ 39 (0,0) h] <;> rfl
theorem zca.touch {w w':World} {z:Nat} {dv mv:Value} {E:Int} {S:Nat→Prop} (h:zca w z dv mv E) (hb:zau w w' S) (hS:¬ S z):zca w' z dv mv E:=(hb.block z h.lt hS).trans h
theorem zca.free {w:World} {z:Nat} {dv mv:Value} {E:Int} (h:zca w z dv mv E) (j:Nat):w.frozen? ⟨z,j,none⟩=false:=by
 unfold World.frozen?;have h':w.heap[z]?=some (.cells #[dv,mv,.int .u64 E] 39 (0,0)):=h;simp only [h']
 simp
theorem zca.store {w:World} {z:Nat} {dv mv:Value} {E:Int} (h:zca w z dv mv E) (dv' mv':Value) (E':Int) :
  zca (((w.setCell ⟨z,0,none⟩ dv').setCell ⟨z,1,none⟩ mv').setCell ⟨z,2,none⟩ (.int .u64 E')) z dv' mv' E':=by
 have h':w.heap[z]?=some (.cells #[dv,mv,.int .u64 E] 39 (0,0)):=h;have h1:=heap_setCell_same w z 0 _ 39 dv' h';have h2:=heap_setCell_same _ z 1 _ 39 mv' h1;have h3:=heap_setCell_same _ z 2 _ 39 (.int .u64 E') h2;exact h3
theorem new3 {w0:World} {o1 o2 o3:Obj} {N:Nat} (h:w0.heap.size=N):(((w0.alloc o1).alloc o2).alloc o3).drew.heap[N]?=some o1∧(((w0.alloc o1).alloc o2).alloc o3).drew.heap[N+1]?=some o2∧(((w0.alloc o1).alloc o2).alloc o3).drew.heap[N+1+1]?=some o3:=by
 subst h;refine ⟨?_,?_,?_⟩
 ·show ((((w0.alloc o1).alloc o2).alloc o3)).heap[w0.heap.size]?=_
  rw [zf4 _ (by simp;omega),zf4 _ (by simp),zdI]
 ·show ((((w0.alloc o1).alloc o2).alloc o3)).heap[w0.heap.size+1]?=_
  rw [zf4 _ (by simp)];have:=zdI (w0.alloc o1) o2
  rwa [World.size_alloc] at this
 ·show ((((w0.alloc o1).alloc o2).alloc o3)).heap[w0.heap.size+1+1]?=_
  have:=zdI ((w0.alloc o1).alloc o2) o3
  rwa [World.size_alloc,World.size_alloc] at this
theorem zhx (n:Nat) (h:n≤140737489403904):∀ u:World,(Instr.makeSlice 36 (.int .i64 (n:Int)) (.int .i64 (n:Int))).run Tryz.prog u =
   .ok (.slice (some ⟨u.heap.size,0,none⟩) n n) (u.alloc (.cells (dC (List.replicate n 0)).toArray 5)):=fun u=>by
 obtain ⟨i0,hi,hz0,hz1,hz2⟩:=info_parts (show (Tryz.prog.info? 5).map (fun i=>(i.zero,i.size,i.bytes))=some (some (.int .u8 0),1,1) by kernel_rfl);have h:=run_make (P:=Tryz.prog) u 36 5 i0 (.int .u8 0) underlying36 hi hz0 .i64 .i64 (n:Int) (n:Int) (by omega) (Int.le_refl _) (by rw [hz2];omega) (by omega);rw [Int.toNat_natCast] at h
 have e:(dC (List.replicate n 0)).toArray=madeCells #[.int .u8 0] n:=by
  apply Array.ext'
  rw [toList_madeCells_one]
  simp [dC]
 rw [e]
 simpa [hz1,Value.cells] using h
theorem zk7 (n:Nat) (h:n≤17592186044416):∀ u:World,(Instr.makeSlice 37 (.int .i64 (n:Int)) (.int .i64 (n:Int))).run Tryz.prog u =
   .ok (.slice (some ⟨u.heap.size,0,none⟩) n n) (u.alloc (.cells (mC (List.replicate n 0)).toArray 22)):=fun u=>by
 obtain ⟨i0,hi,hz0,hz1,hz2⟩:=info_parts (show (Tryz.prog.info? 22).map (fun i=>(i.zero,i.size,i.bytes))=some (some (.int .u64 0),1,8) by kernel_rfl);have h:=run_make (P:=Tryz.prog) u 37 22 i0 (.int .u64 0) underlying37 hi hz0 .i64 .i64 (n:Int) (n:Int) (by omega) (Int.le_refl _) (by rw [hz2];omega) (by omega);rw [Int.toNat_natCast] at h
 have e:(mC (List.replicate n 0)).toArray=madeCells #[.int .u64 0] n:=by
  apply Array.ext'
  rw [toList_madeCells_one]
  simp [mC]
 rw [e]
 simpa [hz1,Value.cells] using h
def Made (w:World) (n m:Nat) (E:Int) (s:Value) (wx:World):Prop :=
 ∃ z g h,s=.pointer (some ⟨z,0,none⟩)∧zca wx z (.slice (some ⟨g,0,none⟩) n n) (.slice (some ⟨h,0,none⟩) m m) E∧OwnD wx w.heap.size (.slice (some ⟨g,0,none⟩) n n) (List.replicate n 0) ∧
  OwnM wx w.heap.size (.slice (some ⟨h,0,none⟩) m m) (List.replicate m 0)∧w.heap.size<z∧w.heap.size<g∧w.heap.size<h∧Below (w.heap.size+1) (w.alloc (.cells #[.slice none 0 0,.slice none 0 0,.int .u64 0] 39)) wx
theorem zfl {w wx:World} {n m z g h:Nat} {E:Int} (h1:wx.heap[z]?=some (.cells #[.slice (some ⟨g,0,none⟩) n n,.slice (some ⟨h,0,none⟩) m m,.int .u64 E] 39 (0,0))) (h2:wx.heap[g]?=some (.cells (dC (List.replicate n 0)).toArray 5 (0,0)))
  (h3:wx.heap[h]?=some (.cells (mC (List.replicate m 0)).toArray 22 (0,0))) (hz:w.heap.size<z) (hg:w.heap.size<g) (hh:w.heap.size<h) (hn:n≤maxLen) (hm:m≤maxLen)
  (hb:Below (w.heap.size+1) (w.alloc (.cells #[.slice none 0 0,.slice none 0 0,.int .u64 0] 39)) wx):Made w n m E (.pointer (some ⟨z,0,none⟩)) wx:=by
 refine ⟨z,g,h,rfl,h1,?_,?_,hz,hg,hh,hb⟩
 ·have e:=zf9 (n:=n) (Nat.le_of_lt hg) h2 (by simp [dC]) hn
  show wx.ownsRow _ _ _ _ _ _
  rw [List.length_replicate];exact e
 ·have e:=zf9 (n:=m) (Nat.le_of_lt hh) h3 (by simp [mC]) hm
  show wx.ownsRow _ _ _ _ _ _
  rw [List.length_replicate];exact e
def spl (D:List UInt8) (off:Nat) (x:ByteArray):List UInt8:=splice D off x.data.toList
theorem zfr (D:List UInt8) (off:Nat) (x:ByteArray) (h:off+x.size≤D.length):(spl D off x).length=D.length:=by
 have e:x.data.toList.length=x.size:=by rw [Array.length_toList];rfl
 unfold spl;rw [length_splice];omega
theorem zoU {w:World} {B g n cap off:Nat} {D:List UInt8} {x:ByteArray} {cur:Array Value} (hg:w.heap[g]?=some (.cells cur 5 (0,0))) (hB:B≤g) (h3:D.length≤cap) (h4:cap≤maxLen) (h5:cur.size=cap*1) (h6:cur.toList.take D.length=dC D) (hn:D.length=n)
  (hfit:off+x.size≤D.length) :
  OwnD (w.setRow g (cur.toList.take off ++ byteCells x ++ cur.toList.drop (off+x.size)).toArray) B (.slice (some ⟨g,0,none⟩) n cap) (spl D off x):=by
 have hx:x.data.toList.length=x.size:=by rw [Array.length_toList];rfl
 have hbl:(byteCells x).length=x.size:=by rw [byteCells_length]
 have hcl:cur.toList.length=cap:=by rw [Array.length_toList,h5,Nat.mul_one]
 unfold OwnD;rw [zfr D off x hfit];subst hn;refine ⟨by rw [zeU,zfr D off x hfit,Nat.mul_one],.inr ⟨g,cap,_,rfl,hB,setRow_heap w g _ _ 5 _ hg,h3,h4,?_,?_⟩⟩
 ·simp only [List.size_toArray,List.length_append,List.length_take,List.length_drop,hbl,hcl]
  omega
 ·have e1:cur.toList.take off=dC (D.take off):=by
   have:=congrArg (List.take off) h6;rw [List.take_take,Nat.min_eq_left (by omega)] at this;rw [this];simp [dC,List.map_take]
  have e2:byteCells x=dC x.data.toList:=rfl
  have e3:(cur.toList.drop (off+x.size)).take (D.length - (off+x.size))=dC (D.drop (off+x.size)):=by
   have:=congrArg (List.drop (off+x.size)) h6;rw [List.drop_take] at this;rw [this];simp [dC,List.map_drop]
  have l1:(dC (D.take off)).length=off:=by rw [zeU,List.length_take];omega
  have l2:(dC x.data.toList).length=x.size:=by rw [zeU,hx]
  rw [e1,e2,List.append_assoc];simp only;rw [Nat.mul_one,List.take_append,l1,List.take_of_length_le (l:=dC (D.take off)) (by omega),List.take_append,l2,List.take_of_length_le (l:=dC x.data.toList) (by omega),show D.length - off - x.size=D.length - (off+x.size) by omega,e3];unfold spl splice dC;rw [hx,List.map_append,List.map_append]
end Go.Proofs.YtplcfdnfeclpmaaGreatDoor
namespace Go
open Go.RowKit
theorem ziw {P:Program} (w:World) (dT sT ty elem:TypeId) (g o dLen dCap:Nat) (s:ByteArray) (cur:Array Value) (t:TypeId)
  (hu:P.underlying dT=some (.slice elem)) (hs:(P.info? elem).map (·.size)=some 1)
  (hg:w.heap[g]?=some (.cells cur t (0,0))) (hn:s.size≤dLen) (hfit:o+s.size≤cur.size) :
  (Builtin.copy_ #[dT,sT] ty #[.slice (some ⟨g,o,none⟩) dLen dCap,.string s]).run P w =
   .ok (goInt s.size) (w.setRow g (cur.toList.take o ++ byteCells s ++ cur.toList.drop (o+s.size)).toArray):=by
 have hst:=run_storeCells_at P g o t (byteCells s) 0 cur w hg (by rw [byteCells_length];simpa using hfit) (by
  intro u hu;obtain ⟨_,_,rfl⟩:=List.mem_map.1 hu;rfl)
 rw [byteCells_length] at hst;have hm:Nat.min s.size dLen=s.size:=Nat.min_eq_left hn;cases hq:P.info? elem with
 | none=>simp [hq] at hs
 | some i =>
  have hi:i.size=1:=by simpa [hq] using hs
  have hf:=firstCells_string (P:=P) s w
  simp [Builtin.copy_,run_underlying hu,Builtin.lenOf,sizeOf,typeInfo,hq,hi,hm,hf,hst]
theorem zmq {P:Program} {w:World} {ops:Array Oper} {rest:List Oper} {o:Oper} {a:Act} {Q:Exit→Act→World→Prop} (hgd:o.guard=none) (d s:Operand) (dT sT:TypeId)
  (ho:o.op=.call { callee:=.builtin .copy,args:=#[d,s],argTypes:=#[dT,sT] }) (elem:TypeId) (hu:P.underlying dT=some (.slice elem)) (hsz:(P.info? elem).map (·.size)=some 1)
  (dLen dCap:Nat) (g off:Nat) (hd:a.eval d=.slice (some ⟨g,off,none⟩) dLen dCap) (x:ByteArray) (hs:a.eval s=.string x)
  (B n cap:Nat) (D:List UInt8) (hown:Proofs.YtplcfdnfeclpmaaGreatDoor.OwnD w B (.slice (some ⟨g,0,none⟩) n cap) D) (hn:x.size≤dLen) (hfit:off+x.size≤D.length)
  (h:∀ w',Hid (Proofs.YtplcfdnfeclpmaaGreatDoor.OwnD w' B (.slice (some ⟨g,0,none⟩) n cap) (Proofs.YtplcfdnfeclpmaaGreatDoor.spl D off x))→Hid (Proofs.YtplcfdnfeclpmaaGreatDoor.zau w w' (fun k=>k=g))→wpList P ops Q rest (a.put o.dst (goInt x.size)) w') :
  wpList P ops Q (o :: rest) a w:=by
 refine wpList_plain hgd fun K hK=>?_
 rcases hown.2 with ⟨h1,_⟩ | ⟨g',cap',cur,h1,h2,h3,h4,h5,h6,h7⟩
 ·cases h1
 ·simp only [Value.slice.injEq,Option.some.injEq,Addr.mk.injEq,and_true] at h1
  obtain ⟨rfl,hDn,rfl⟩:=h1;rw [Nat.mul_one] at h7;have hrun:=ziw (P:=P) w dT sT o.type elem g off dLen dCap x cur 5 hu hsz h3 hn (by omega);unfold Oper.wp
  simp [execOp,ho,resolve,invoke,builtin,hd,hs,hrun,Result.andThen]
  have hfin:=h _ (Proofs.YtplcfdnfeclpmaaGreatDoor.zoU (x:=x) h3 h2 h4 h5 h6 h7 hDn.symm hfit) (show Proofs.YtplcfdnfeclpmaaGreatDoor.zau w _ (fun k=>k=g) from (Proofs.YtplcfdnfeclpmaaGreatDoor.zau.refl w (fun k=>k=g)).setRow (.inl rfl) _);rw [List.append_assoc] at hfin;exact hK _ _ hfin
end Go
