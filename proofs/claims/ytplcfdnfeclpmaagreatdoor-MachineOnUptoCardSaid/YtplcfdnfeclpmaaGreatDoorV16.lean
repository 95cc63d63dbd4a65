/- MachineOn, part 16. -/
import Derived.Below
import Derived.Deep.Draws
import Derived.Deep.Slices
import Derived.BigQuiet
import Derived.Carry
import Derived.ChangeMaps
import Derived.Deep.DeepCutAuto
import Derived.Deep.RegionHeld3
import Derived.Deep.RegionWith
import Derived.IntWalk
import Derived.Laws.BitsAllLaws
import Derived.Laws.Bits64b
import Derived.Lib.Hide
import Derived.Lib.SmallJoins
import Derived.OpenShut
import Derived.ProofKit
import Derived.SizedLaws
import Derived.WalkKit
import Derived.WalkLawsBesides
import Derived.Laws.ResultCell
import Derived.Deep.WholeRow
import Derived.Laws.CopyOwn
import Derived.Test.YtplcfdnfeclpmaaGreatDoorV07
set_option maxHeartbeats 4000000
set_option maxRecDepth 100000
open Go.Lib (hid)
open Go Go.RowKit Go.Deep Go.Joins Go.Proofs.Tryz
namespace Go.Proofs.YtplcfdnfeclpmaaGreatDoor.Cs
theorem zam {k:IntKind} {a b:Int} (h:a=b):Ending.returned (.int k a)=.returned (.int k b):=by rw [h]
theorem zaT {a b:Bool} (h:a=b):Ending.returned (.bool a)=.returned (.bool b):=by rw [h]
theorem zac {B:Nat} {a b c:World} (h:Below B a b) (hB:B≤a.heap.size) (k:Below b.heap.size b c):Below B a c:=h.trans (k.mono (Nat.le_trans hB h.size))
abbrev boxO (c:Reg):Obj:=.cells #[.int .u64 c.s0,.int .u64 c.s1,.int .u64 c.s2,.int .u64 c.s3,.int .u64 c.s4,.int .u64 c.s5,.int .u64 c.s6,.int .u64 c.s7,.int .u64 c.s8,.int .u64 c.s9,.int .u64 c.s10,.int .u64 c.s11,.int .u64 c.s12,.int .u64 c.s13,.int .u64 c.s14,.int .u64 c.s15] 25
def stV (v:Int):Int:=if (bits .and .u64 (bits .and .u64 v 924074 / 2048) 3==2)=true then bits .andNot .u64 (bits .and .u64 v 924074) 6144 else bits .and .u64 v 924074
def tbB (v:Int):Bool:=v / 1152921504606846976==0 || v / 1152921504606846976==8
def spV (w v:Int):Int:=if tbB v=true then bits .and .u64 v 17293840161288749055 else w
def mxV (n v b:Int):Int:=bits .or .u64 (bits .andNot .u64 n b) (bits .and .u64 v b)
def rsV (p l:Int):Int:=bits .or .u64 (bits .and .u64 p 546) (bits .and .u64 l 2730)
def zaz (n:Int):Int:=bits .and .i64 (n / 256) 3
def zg9 (n:Int):Int:=bits .and .i64 (n / 1024) 3
theorem zbb (m n:Int) (b:Bool) (hb:decide (zaz n≤m)=b) (W:World):TW 148 #[.int .i64 m,.int .i64 n] W (.bool b):=by
 subst hb;go_enter func148,ntmps148
 go_wp2
 go_ret;exact ⟨rfl,rfl⟩
theorem zp6 (m n:Int) (hb:decide (zaz n≤m)=false) (W:World):TW 152 #[.int .i64 m,.int .i64 n] W (.bool false):=by
 go_enter func152,ntmps152;go_wp2_with (go_at_call 148;with_reducible refine (zbb m n false hb _).tq ?_);go_ret;exact ⟨rfl,rfl⟩
theorem zbN (m n:Int) (b:Bool) (hb:decide (zaz n≤m)=true) (ho:(zg9 n != 3)=b) (W:World):TW 152 #[.int .i64 m,.int .i64 n] W (.bool b):=by
 subst ho;go_enter func152,ntmps152;go_wp2_with (go_at_call 148;with_reducible refine (zbb m n true hb _).tq ?_);go_ret;exact ⟨rfl,rfl⟩
theorem zct (n b:Int) (W:World):TW 53 #[.int .u64 n,.int .u64 b] W (.bool (bits .andNot .u64 n b==0)):=by
 go_enter func53,ntmps53
 go_wp2
 go_ret;exact ⟨rfl,rfl⟩
theorem zhy (n v b:Int) (W:World):TW 154 #[.int .u64 n,.int .u64 v,.int .u64 b] W (.int .u64 (mxV n v b)):=by
 go_enter func154,ntmps154
 go_wp2
 go_ret;exact ⟨rfl,rfl⟩
theorem zbE (v:Int) (W:World):TW 52 #[.int .u64 v] W (.int .u64 (stV v)):=by
 have h1:Hid ((bits .and .u64 (bits .and .u64 v 924074 / 2048) 3==2)=true→stV v=bits .andNot .u64 (bits .and .u64 v 924074) 6144):=hid fun h=>if_pos h
 have h2:Hid ((bits .and .u64 (bits .and .u64 v 924074 / 2048) 3==2)=false→stV v=bits .and .u64 v 924074):=hid fun h=>if_neg (by rw [h];decide)
 rcases Bool.eq_false_or_eq_true (bits .and .u64 (bits .and .u64 v 924074 / 2048) 3==2) with h | h
 ·have h3:=hid (h1.out h)
  go_enter func52,ntmps52
  go_wp2
  go_ret;exact ⟨zam h3.out.symm,rfl⟩
 ·have h3:=hid (h2.out h)
  go_enter func52,ntmps52
  go_wp2
  go_ret;exact ⟨zam h3.out.symm,rfl⟩
theorem zcX (v:Int) (W:World):TW 54 #[.int .u64 v] W (.bool (tbB v)):=by
 go_enter func54,ntmps54
 go_wp2
 all_goals go_ret
 ·exact ⟨zaT (by unfold tbB;rename_i h;rw [h];rfl),rfl⟩
 ·exact ⟨rfl,rfl⟩
theorem zj4 (c:Reg) (l:Int) (W:World):Calls Tryz.prog 150 #[regV c,.int .u64 l] W fun e W'=>e=.returned (.int .u64 (rsV c.s4 l))∧W.alloc (boxO c)=W':=by
 go_enter func150,ntmps150
 go_wp2
 go_ret;exact ⟨rfl,rfl⟩
theorem zk2 (a:Addr) (W:World):TW 149 #[.pointer (some a),.int .i64 768] W (.pointer (some a)):=by
 go_enter func149,ntmps149
 go_wp2
 go_ret;exact ⟨rfl,rfl⟩
theorem zkw (a:Addr) (W:World):TW 149 #[.pointer (some a),.int .i64 770] W (.pointer (some { block:=a.block,off:=a.off+1 })):=by
 go_enter func149,ntmps149
 go_wp2
 go_ret;exact ⟨rfl,rfl⟩
theorem zlo (a:Addr) (W:World):TW 149 #[.pointer (some a),.int .i64 771] W (.pointer (some { block:=a.block,off:=a.off+2 })):=by
 go_enter func149,ntmps149
 go_wp2
 go_ret;exact ⟨rfl,rfl⟩
theorem zlk (a:Addr) (W:World):TW 149 #[.pointer (some a),.int .i64 772] W (.pointer (some { block:=a.block,off:=a.off+3 })):=by
 go_enter func149,ntmps149
 go_wp2
 go_ret;exact ⟨rfl,rfl⟩
theorem zjC (a:Addr) (W:World):TW 149 #[.pointer (some a),.int .i64 773] W (.pointer (some { block:=a.block,off:=a.off+5 })):=by
 go_enter func149,ntmps149
 go_wp2
 go_ret;exact ⟨rfl,rfl⟩
theorem zj3 (a:Addr) (W:World):TW 149 #[.pointer (some a),.int .i64 832] W (.pointer (some { block:=a.block,off:=a.off+6 })):=by
 go_enter func149,ntmps149
 go_wp2
 go_ret;exact ⟨rfl,rfl⟩
theorem zll (a:Addr) (W:World):TW 149 #[.pointer (some a),.int .i64 833] W (.pointer (some { block:=a.block,off:=a.off+7 })):=by
 go_enter func149,ntmps149
 go_wp2
 go_ret;exact ⟨rfl,rfl⟩
theorem ziH (a:Addr) (W:World):TW 149 #[.pointer (some a),.int .i64 834] W (.pointer (some { block:=a.block,off:=a.off+8 })):=by
 go_enter func149,ntmps149
 go_wp2
 go_ret;exact ⟨rfl,rfl⟩
theorem zkf (a:Addr) (W:World):TW 149 #[.pointer (some a),.int .i64 835] W (.pointer (some { block:=a.block,off:=a.off+9 })):=by
 go_enter func149,ntmps149
 go_wp2
 go_ret;exact ⟨rfl,rfl⟩
theorem zkC (a:Addr) (W:World):TW 149 #[.pointer (some a),.int .i64 261] W (.pointer (some { block:=a.block,off:=a.off+10 })):=by
 go_enter func149,ntmps149
 go_wp2
 go_ret;exact ⟨rfl,rfl⟩
theorem zkU (a:Addr) (W:World):TW 149 #[.pointer (some a),.int .i64 320] W (.pointer (some { block:=a.block,off:=a.off+11 })):=by
 go_enter func149,ntmps149
 go_wp2
 go_ret;exact ⟨rfl,rfl⟩
theorem zk4 (a:Addr) (W:World):TW 149 #[.pointer (some a),.int .i64 321] W (.pointer (some { block:=a.block,off:=a.off+12 })):=by
 go_enter func149,ntmps149
 go_wp2
 go_ret;exact ⟨rfl,rfl⟩
theorem zjB (a:Addr) (W:World):TW 149 #[.pointer (some a),.int .i64 322] W (.pointer (some { block:=a.block,off:=a.off+13 })):=by
 go_enter func149,ntmps149
 go_wp2
 go_ret;exact ⟨rfl,rfl⟩
theorem zlj (a:Addr) (W:World):TW 149 #[.pointer (some a),.int .i64 323] W (.pointer (some { block:=a.block,off:=a.off+14 })):=by
 go_enter func149,ntmps149
 go_wp2
 go_ret;exact ⟨rfl,rfl⟩
theorem zjt (a:Addr) (W:World):TW 149 #[.pointer (some a),.int .i64 384] W (.pointer (some { block:=a.block,off:=a.off+15 })):=by
 go_enter func149,ntmps149
 go_wp2
 go_ret;exact ⟨rfl,rfl⟩
theorem zcC (a:Addr) (n:Int) (h300:(n==768)=false) (h302:(n==770)=false) (h303:(n==771)=false) (h304:(n==772)=false) (h305:(n==773)=false) (h340:(n==832)=false) (h341:(n==833)=false) (h342:(n==834)=false) (h343:(n==835)=false) (h105:(n==261)=false) (h140:(n==320)=false) (h141:(n==321)=false) (h142:(n==322)=false) (h143:(n==323)=false) (h180:(n==384)=false) (W:World):TW 149 #[.pointer (some a),.int .i64 n] W (.pointer none):=by
 go_enter func149,ntmps149
 go_wp2
 go_ret;exact ⟨rfl,rfl⟩
theorem zjo (a:Addr) (W:World):TW 149 #[.pointer (some a),.int .i64 256] W (.pointer none) :=
 zcC a 256 (by decide) (by decide) (by decide) (by decide) (by decide) (by decide) (by decide) (by decide) (by decide) (by decide) (by decide) (by decide) (by decide) (by decide) (by decide) W
theorem zje (a:Addr) (W:World):TW 149 #[.pointer (some a),.int .i64 260] W (.pointer none) :=
 zcC a 260 (by decide) (by decide) (by decide) (by decide) (by decide) (by decide) (by decide) (by decide) (by decide) (by decide) (by decide) (by decide) (by decide) (by decide) (by decide) W
theorem ziA (a:Addr) (W:World):TW 149 #[.pointer (some a),.int .i64 324] W (.pointer none) :=
 zcC a 324 (by decide) (by decide) (by decide) (by decide) (by decide) (by decide) (by decide) (by decide) (by decide) (by decide) (by decide) (by decide) (by decide) (by decide) (by decide) W
theorem zlA (a:Addr) (W:World):TW 149 #[.pointer (some a),.int .i64 769] W (.pointer none) :=
 zcC a 769 (by decide) (by decide) (by decide) (by decide) (by decide) (by decide) (by decide) (by decide) (by decide) (by decide) (by decide) (by decide) (by decide) (by decide) (by decide) W
theorem zjQ (a:Addr) (W:World):TW 149 #[.pointer (some a),.int .i64 836] W (.pointer none) :=
 zcC a 836 (by decide) (by decide) (by decide) (by decide) (by decide) (by decide) (by decide) (by decide) (by decide) (by decide) (by decide) (by decide) (by decide) (by decide) (by decide) W
theorem zle (a:Addr) (W:World):TW 149 #[.pointer (some a),.int .i64 2816] W (.pointer none) :=
 zcC a 2816 (by decide) (by decide) (by decide) (by decide) (by decide) (by decide) (by decide) (by decide) (by decide) (by decide) (by decide) (by decide) (by decide) (by decide) (by decide) W
theorem zjU (a:Addr) (W:World):TW 149 #[.pointer (some a),.int .i64 2818] W (.pointer none) :=
 zcC a 2818 (by decide) (by decide) (by decide) (by decide) (by decide) (by decide) (by decide) (by decide) (by decide) (by decide) (by decide) (by decide) (by decide) (by decide) (by decide) W
theorem zwC (a:Addr) (W:World):TW 149 #[.pointer (some a),.int .i64 3072] W (.pointer none) :=
 zcC a 3072 (by decide) (by decide) (by decide) (by decide) (by decide) (by decide) (by decide) (by decide) (by decide) (by decide) (by decide) (by decide) (by decide) (by decide) (by decide) W
theorem zzX (a:Addr) (W:World):TW 149 #[.pointer (some a),.int .i64 3073] W (.pointer none) :=
 zcC a 3073 (by decide) (by decide) (by decide) (by decide) (by decide) (by decide) (by decide) (by decide) (by decide) (by decide) (by decide) (by decide) (by decide) (by decide) (by decide) W
theorem zwZ (a:Addr) (W:World):TW 149 #[.pointer (some a),.int .i64 3074] W (.pointer none) :=
 zcC a 3074 (by decide) (by decide) (by decide) (by decide) (by decide) (by decide) (by decide) (by decide) (by decide) (by decide) (by decide) (by decide) (by decide) (by decide) (by decide) W
theorem zyJ (a:Addr) (W:World):TW 149 #[.pointer (some a),.int .i64 3857] W (.pointer none) :=
 zcC a 3857 (by decide) (by decide) (by decide) (by decide) (by decide) (by decide) (by decide) (by decide) (by decide) (by decide) (by decide) (by decide) (by decide) (by decide) (by decide) W
theorem zz7 (a:Addr) (W:World):TW 149 #[.pointer (some a),.int .i64 3858] W (.pointer none) :=
 zcC a 3858 (by decide) (by decide) (by decide) (by decide) (by decide) (by decide) (by decide) (by decide) (by decide) (by decide) (by decide) (by decide) (by decide) (by decide) (by decide) W
theorem znL (a:Addr) (W:World):TW 149 #[.pointer (some a),.int .i64 3859] W (.pointer none) :=
 zcC a 3859 (by decide) (by decide) (by decide) (by decide) (by decide) (by decide) (by decide) (by decide) (by decide) (by decide) (by decide) (by decide) (by decide) (by decide) (by decide) W
theorem zth (a:Addr) (W:World):TW 149 #[.pointer (some a),.int .i64 3860] W (.pointer none) :=
 zcC a 3860 (by decide) (by decide) (by decide) (by decide) (by decide) (by decide) (by decide) (by decide) (by decide) (by decide) (by decide) (by decide) (by decide) (by decide) (by decide) W
theorem zzm (u v:Int) (W:World):TW 153 #[.int .i64 768,.int .u64 u,.int .u64 v] W (.int .u64 (stV v)):=by
 go_enter func153,ntmps153;go_wp2_with (go_at_call 52;with_reducible refine (zbE _ _).tq ?_);go_ret;exact ⟨rfl,rfl⟩
theorem zwn (u v:Int) (W:World):TW 153 #[.int .i64 770,.int .u64 u,.int .u64 v] W (.int .u64 (bits .and .u64 v 46079)):=by
 go_enter func153,ntmps153;go_wp2_with (go_at_call 52;with_reducible refine (zbE _ _).tq ?_);go_ret;exact ⟨rfl,rfl⟩
theorem zpK (u v:Int) (W:World):TW 153 #[.int .i64 771,.int .u64 u,.int .u64 v] W (.int .u64 (bits .and .u64 v 546)):=by
 go_enter func153,ntmps153;go_wp2_with (go_at_call 52;with_reducible refine (zbE _ _).tq ?_);go_ret;exact ⟨rfl,rfl⟩
theorem zox (u v:Int) (W:World):TW 153 #[.int .i64 772,.int .u64 u,.int .u64 v] W (.int .u64 (bits .and .u64 v 2730)):=by
 go_enter func153,ntmps153;go_wp2_with (go_at_call 52;with_reducible refine (zbE _ _).tq ?_);go_ret;exact ⟨rfl,rfl⟩
theorem zl3 (u v:Int) (W:World):TW 153 #[.int .i64 773,.int .u64 u,.int .u64 v] W (.int .u64 (bits .and .u64 v 18446744073709551613)):=by
 go_enter func153,ntmps153;go_wp2_with (go_at_call 52;with_reducible refine (zbE _ _).tq ?_);go_ret;exact ⟨rfl,rfl⟩
theorem zsc (u v:Int) (W:World):TW 153 #[.int .i64 832,.int .u64 u,.int .u64 v] W (.int .u64 v):=by
 go_enter func153,ntmps153;go_wp2_with (go_at_call 52;with_reducible refine (zbE _ _).tq ?_);go_ret;exact ⟨rfl,rfl⟩
theorem zu3 (u v:Int) (W:World):TW 153 #[.int .i64 833,.int .u64 u,.int .u64 v] W (.int .u64 (bits .and .u64 v 18446744073709551614)):=by
 go_enter func153,ntmps153;go_wp2_with (go_at_call 52;with_reducible refine (zbE _ _).tq ?_);go_ret;exact ⟨rfl,rfl⟩
theorem zwp (u v:Int) (W:World):TW 153 #[.int .i64 834,.int .u64 u,.int .u64 v] W (.int .u64 v):=by
 go_enter func153,ntmps153;go_wp2_with (go_at_call 52;with_reducible refine (zbE _ _).tq ?_);go_ret;exact ⟨rfl,rfl⟩
theorem zy2 (u v:Int) (W:World):TW 153 #[.int .i64 835,.int .u64 u,.int .u64 v] W (.int .u64 v):=by
 go_enter func153,ntmps153;go_wp2_with (go_at_call 52;with_reducible refine (zbE _ _).tq ?_);go_ret;exact ⟨rfl,rfl⟩
theorem ztO (u v:Int) (W:World):TW 153 #[.int .i64 261,.int .u64 u,.int .u64 v] W (.int .u64 (bits .and .u64 v 18446744073709551613)):=by
 go_enter func153,ntmps153;go_wp2_with (go_at_call 52;with_reducible refine (zbE _ _).tq ?_);go_ret;exact ⟨rfl,rfl⟩
theorem zu1 (u v:Int) (W:World):TW 153 #[.int .i64 320,.int .u64 u,.int .u64 v] W (.int .u64 v):=by
 go_enter func153,ntmps153;go_wp2_with (go_at_call 52;with_reducible refine (zbE _ _).tq ?_);go_ret;exact ⟨rfl,rfl⟩
theorem zl4 (u v:Int) (W:World):TW 153 #[.int .i64 321,.int .u64 u,.int .u64 v] W (.int .u64 (bits .and .u64 v 18446744073709551614)):=by
 go_enter func153,ntmps153;go_wp2_with (go_at_call 52;with_reducible refine (zbE _ _).tq ?_);go_ret;exact ⟨rfl,rfl⟩
theorem zq7 (u v:Int) (W:World):TW 153 #[.int .i64 322,.int .u64 u,.int .u64 v] W (.int .u64 v):=by
 go_enter func153,ntmps153;go_wp2_with (go_at_call 52;with_reducible refine (zbE _ _).tq ?_);go_ret;exact ⟨rfl,rfl⟩
theorem zuK (u v:Int) (W:World):TW 153 #[.int .i64 323,.int .u64 u,.int .u64 v] W (.int .u64 v):=by
 go_enter func153,ntmps153;go_wp2_with (go_at_call 52;with_reducible refine (zbE _ _).tq ?_);go_ret;exact ⟨rfl,rfl⟩
theorem zAC (u v:Int) (W:World):TW 153 #[.int .i64 384,.int .u64 u,.int .u64 v] W (.int .u64 (spV u v)):=by
 rcases Bool.eq_false_or_eq_true (tbB v) with h | h
 ·have h3:=hid (show spV u v=bits .and .u64 v 17293840161288749055 from if_pos h)
  go_enter func153,ntmps153;go_wp2_with (go_at_call 54;with_reducible refine (zcX _ _).tq ?_);go_ret;exact ⟨zam h3.out.symm,rfl⟩
 ·have h3:=hid (show spV u v=u from if_neg (by rw [h];decide))
  go_enter func153,ntmps153;go_wp2_with (go_at_call 54;with_reducible refine (zcX _ _).tq ?_);go_ret;exact ⟨zam h3.out.symm,rfl⟩
end Go.Proofs.YtplcfdnfeclpmaaGreatDoor.Cs
namespace Go
theorem zbK {P:Program} {w:World} {ops:Array Oper} {rest:List Oper} {o:Oper} {a:Act} {Q:Exit→Act→World→Prop} (hgd:o.guard=none) (t:TypeId) (p:Operand) (ho:o.op=.load t p) (v r:Value) (hp:a.eval p=v)
  (hrun:(Instr.loadAt t v).run P w=.ok r w) (h:wpList P ops Q rest (a.put o.dst r) w):wpList P ops Q (o :: rest) a w:=by
 refine wpList_plain hgd fun K hK=>?_
 unfold Oper.wp
 simp [execOp,ho,hp,hrun,Result.andThen]
 exact hK _ _ h
theorem zbF {P:Program} {w w':World} {ops:Array Oper} {rest:List Oper} {o:Oper} {a:Act} {Q:Exit→Act→World→Prop} (hgd:o.guard=none) (t:TypeId) (p x:Operand) (ho:o.op=.store t p x) (v u:Value) (hp:a.eval p=v) (hx:a.eval x=u)
  (hrun:(Instr.storeAt t v u).run P w=.ok () w') (h:wpList P ops Q rest (a.put o.dst undef) w'):wpList P ops Q (o :: rest) a w:=by
 refine wpList_plain hgd fun K hK=>?_
 unfold Oper.wp
 simp [execOp,ho,hp,hx,hrun,Result.andThen]
 exact hK _ _ h
end Go
namespace Go.Proofs.YtplcfdnfeclpmaaGreatDoor.Cs
abbrev zaj:Obj:=.cells #[.int .u64 0,.int .u64 0,.int .u64 0,.int .u64 0,.int .u64 0,.int .u64 0,.int .u64 0,.int .u64 0,.int .u64 0,.int .u64 0,.int .u64 0,.int .u64 0,.int .u64 0,.int .u64 0,.int .u64 0,.int .u64 0] 25
abbrev regC (c:Reg):Array Value:=#[.int .u64 c.s0,.int .u64 c.s1,.int .u64 c.s2,.int .u64 c.s3,.int .u64 c.s4,.int .u64 c.s5,.int .u64 c.s6,.int .u64 c.s7,.int .u64 c.s8,.int .u64 c.s9,.int .u64 c.s10,.int .u64 c.s11,.int .u64 c.s12,.int .u64 c.s13,.int .u64 c.s14,.int .u64 c.s15]
theorem zc2:(Tryz.prog.info? 25).map (·.size)=some 16:=by kernel_rfl
theorem zbI (w:World) (b:Nat) (c:Reg) (h:w.heap[b]?=some (boxO c)):(Instr.loadAt 25 (.pointer (some ⟨b,0,none⟩))).run Tryz.prog w=.ok (regV c) w:=by
 simp only [Instr.loadAt,Instr.sureAddr,Sem.run_bind,Sem.run_pure,Result.andThen];exact run_loadVar_row w b 25 25 (regC c) (0,0) _ h underlying25 rfl zc2
theorem zww (c:Reg):(regC c).all (·.oneCell')=true:=by simp [Value.oneCell']
theorem store_at (w:World) (b:Nat) (old:Array Value) (c:Reg) (h:w.heap[b]?=some (.cells old 25 (0,0))) (ho:old.size=16):(Instr.storeAt 25 (.pointer (some ⟨b,0,none⟩)) (regV c)).run Tryz.prog w=.ok () (w.setRow b (regC c)):=by
 simp only [Instr.storeAt,Instr.sureAddr,Sem.run_bind,Sem.run_pure,Result.andThen];exact run_storeVar_row w b 25 25 old (regC c) h zc2 ho (zww c)
theorem zbG (w:World) (b:Nat) (old:Array Value) (c:Reg) (h:w.heap[b]?=some (.cells old 25 (0,0))):(loadVar 25 ⟨b,0,none⟩).run Tryz.prog (w.setRow b (regC c))=.ok (regV c) (w.setRow b (regC c)) :=
 run_loadVar_row _ b 25 25 (regC c) (0,0) _ (setRow_heap w b old (regC c) 25 (0,0) h) underlying25 rfl zc2
theorem zbJ (W:World) (A B:Obj):((W.alloc A).alloc B).heap[W.heap.size]?=some A:=(Below.heap_alloc (W.alloc A) B W.heap.size (by simp)).trans (heap_alloc_last W A)
theorem zaS (W:World) (A B:Obj):((W.alloc A).alloc B).heap[W.heap.size+1]?=some B:=by
 have h:=heap_alloc_last (W.alloc A) B
 rwa [World.size_alloc] at h
theorem zbj (W:World) (A B:Obj) (cs:Array Value):Below W.heap.size W (((W.alloc A).alloc B).setRow (W.heap.size+1) cs) :=
 below_setRow (((Below.refl _ _).alloc (Nat.le_refl _) _).alloc (by simp) _) (by omega) cs
end Go.Proofs.YtplcfdnfeclpmaaGreatDoor.Cs
