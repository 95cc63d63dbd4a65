/- Copy of a board, both sides. Small functions of the devices. What a read tells. -/
import Derived.Test.YtgflnfmnjlmenaaYDS
import Derived.Test.YtgflnfmnjlmenaaYRP
import Derived.BigQuiet
import Derived.StillTailTactics
namespace Go.Proofs.Ytgflnfmnjlmenaa
open Go.RowKit Go.Deep Go.Joins

end Go.Proofs.Ytgflnfmnjlmenaa
namespace Go
end Go
namespace Go.Proofs.Ytgflnfmnjlmenaa
open Go.RowKit Go.Deep Go.Joins
/-- A copy of a board, with frames of the call's own. -/
def Copied (W : World) (b : Bd) (F : List ByteArray) (e : Ending) (W' : World) : Prop :=
  ∃ p c, e = .returned (bdV (b.at p F.length c)) ∧ OwnF W' W.heap.size (.slice p F.length c) F ∧ Below W.heap.size W W'
theorem OwnF.base {w : World} {B B' : Nat} {v : Value} {F : List ByteArray} (h : OwnF w B v F) (hB : B' ≤ B) : OwnF w B' v F := owns_base h hB
theorem OwnF.over {w : World} {B g : Nat} {v : Value} {F : List ByteArray} {b : Bd} (h : OwnF w B v F) (k : Box w g b) (cs : Array Value) : OwnF (w.setRow g cs) B v F :=
  owns_touch h ((Touch.refl w (fun k => k = g)).setRow (.inl rfl) cs) (fun g' e e2 => h.not_box k (by rw [e, e2]))
theorem OwnF.put {w w' : World} {B g : Nat} {v : Value} {F : List ByteArray} {b : Bd} {cs : Array Value} (h : OwnF w B v F) (k : Box w g b) (hw : w' = w.setRow g cs) : OwnF w' B v F := by
  subst hw; exact h.over k cs
set_option maxRecDepth 10000 in
set_option maxHeartbeats 1000000 in
theorem rcopy_bd (b : Bd) (F : List ByteArray) (W : World) (hf : FAt W (.slice b.fp b.fn b.fc) F) (hF : F.length ≤ 8796093022208) :
    Calls Try.prog 15 #[bdV b] W (Copied W b F) := by
  go_enter Try.func15, Try.ntmps15
  go_upto_region 1 with (fail)
  have X := Lib.hid (KA.new W b)
  generalize (W.alloc (bdO b)).alloc zeroO = wx at X ⊢
  have hl := hf.len
  have X1 := Lib.hid (X.out.next (below1 wx (.cells #[] 9)))
  have hrd : Reads (wx.alloc (.cells #[] 9)) (.slice b.fp b.fn b.fc) 1 b.fn (sC F) := by
    have h := (hf.next X.out.below).next (below1 wx (.cells #[] 9))
    unfold FAt at h
    rwa [← hl] at h
  obtain ⟨i, hi, hz, hs, hb⟩ := info9
  obtain ⟨p, cap, w2, hrun, ho, ht⟩ := run_append_first (wx.alloc (.cells #[] 9)) 28 28 9 i (.string .empty) 16 Try.underlying28 hi hz hs hb rfl wx.heap.size wx.heap.size (heap_alloc_new _ _) (Nat.le_refl _) b.fp b.fn b.fc (sC F) hrd (sC_one F) (by unfold maxLen; omega) (by omega) (by simp)
  have hb2 : Below wx.heap.size wx w2 := Touch.below (below1 wx _) ht (fun k hk => by omega) (by simp)
  have HR := Lib.hid hrun
  have X2 := Lib.hid (X.out.next hb2)
  have HO := Lib.hid (show OwnF w2 W.heap.size (.slice p b.fn cap) F from by unfold OwnF; rw [← hl]; exact owns_base ho X.out.below.size)
  have HL := Lib.hid hl
  clear hrd hrun ho hb2 ht hf hi hz hs hb hl
  go_wp2_with (first | (with_reducible refine wpList_load_by rfl rfl (Box.load_fr X1.out.own) rfl ?_) | (at_builtin; (refine wpList_append_run rfl _ _ 28 rfl _ _ _ rfl rfl _ HR.out ?_)) | (with_reducible refine Box.w_fr X2.out.own rfl rfl rfl rfl ?_; intro wy hwy; have X3 := Lib.hid (X2.out.put hwy); have HO3 := Lib.hid (HO.out.put X2.out.own hwy); clear hwy) | (with_reducible refine wpList_load_by rfl rfl (Box.load X3.out.own) rfl ?_) | (with_reducible refine w_box X3.out.res rfl rfl rfl rfl ?_; intro wz hwz; have X4 := Lib.hid (X3.out.tell hwz); have HO4 := Lib.hid (HO3.out.put X3.out.res hwz); clear hwz) | fail)
  have hl := HL.out
  exact bodyPost_ret (v := bdV (b.at p b.fn cap)) (results_cell_row Try.results15 _ _ (W.heap.size + 1) 35 (bdC (b.at p b.fn cap)) (0, 0) _ rfl X4.out.res Try.underlying35 rfl (by rw [size35, bdC_size])) rfl ⟨p, cap, by rw [hl], by rw [← hl]; exact HO4.out, X4.out.below⟩

end Go.Proofs.Ytgflnfmnjlmenaa
namespace Go.Proofs.Ytgflnfmnjlmenaa
open Go.RowKit Go.Deep Go.Joins
def bV (s : Bool) (k : Nat) : Int := if s = true then 2 ^ k else 0
def NoPlace (t : Int) : Prop := (t == 33554432) = false ∧ (t == 33570816) = false ∧ (t == 33603576) = false ∧ (t == 268435456) = false ∧ (t == 268435457) = false ∧ (t == 268435461) = false ∧ (t == 268439552) = false ∧ (t == 268439560) = false ∧ (t == 268439568) = false ∧ (t == 268439576) = false ∧ (t == 268443648) = false ∧ (t == 268443656) = false ∧ (t == 268443664) = false ∧ (t == 268443672) = false
def ordV (v a b : Int) : Int := if (v == 1) = true then a else if (v == 2) = true then b else 0
def hasB (b : Bd) : Bool := (b.sec.size : Int) == 1024
set_option maxRecDepth 10000 in
set_option maxHeartbeats 1000000 in
theorem has_any (b : Bd) (W : World) : Calls Try.prog 42 #[bdV b] W fun e W' => e = .returned (.bool (hasB b)) ∧ Below W.heap.size W W' := by
  have m_sec : (bdC b)[4]? = some (.string b.sec) := bdC_head b 4 (by omega)
  go_enter Try.func42, Try.ntmps42
  go_wp2_with fail
  go_ret
  exact ⟨rfl, (Below.refl _ _).alloc (Nat.le_refl _) _⟩
theorem below_drewN {B : Nat} {w w' : World} (h : Below B w w') (n : Nat) : Below B w (w'.drewN n) := ⟨h.os, h.tape, h.output, h.size, h.block⟩
def clockV (b : Bd) (n : Int) : Int := bits .or .u64 (bV b.msip 3) (bV (decide (b.cmp ≤ n)) 7)
def sourcesV (b : Bd) (F : List ByteArray) : Int := IntKind.u32.wrap (bits .or .u64 (bits .or .u64 (bV (b.ier && decide (0 < b.inn.size)) 1) (bV b.done 2)) (bV (decide (0 < F.length)) 3))
theorem in_none (s : ByteArray) : (!s.toList.isEmpty) = decide (0 < s.size) := by
  rw [ByteArray.toList_eq]
  have h : s.size = s.data.toList.length := by rw [Array.length_toList]; rfl
  rw [h]
  cases s.data.toList <;> simp
end Go.Proofs.Ytgflnfmnjlmenaa
namespace Go.Proofs.Ytgflnfmnjlmenaa
open Go.RowKit Go.Deep Go.Joins
theorem Box.put {w w' : World} {g : Nat} {b b' : Bd} (k : Box w g b) (h : w' = w.setRow g (bdC b')) : Box w' g b' := by subst h; exact Box.mine k b'
theorem below_put {W w w' : World} {B g : Nat} {cs : Array Value} (k : Below B W w) (hg : B ≤ g) (h : w' = w.setRow g cs) : Below B W w' := by subst h; exact below_setRow k hg cs


/-- The first byte, and what is behind it. -/
def headS (s : ByteArray) : Int := if h : 0 < s.size then (s[0].toNat : Int) else 0
def tailS (s : ByteArray) : ByteArray := if 0 < s.size then s.extract 1 s.size else s
def lenF (F : List ByteArray) : Int := if h : 0 < F.length then IntKind.u64.wrap (F[0].size : Int) else 0
/-- What a read tells: the board behind it, its frames, the number, and whether there is something to be read so. -/
def ldF (b : Bd) (F : List ByteArray) (t s n : Int) : Bd × List ByteArray × Int × Bool :=
  if t = 33554432 ∧ s = 4 then (b, F, bV b.msip 0, true) else
  if t = 33570816 ∧ s = 8 then (b, F, b.cmp, true) else
  if t = 33603576 ∧ s = 8 then (b, F, n, true) else
  if t = 268435456 ∧ s = 1 then ({ b with inn := tailS b.inn }, F, headS b.inn, true) else
  if t = 268435457 ∧ s = 1 then (b, F, bV b.ier 0, true) else
  if t = 268435461 ∧ s = 1 then (b, F, bits .or .u64 (bV (decide (0 < b.inn.size)) 0) 96, true) else
  if t = 268439552 ∧ s = 8 then (b, F, b.sector, true) else
  if t = 268439560 ∧ s = 8 then (b, F, b.addr, true) else
  if t = 268439576 ∧ s = 8 then ({ b with done := false }, F, bits .or .u64 (bV b.done 0) (bV b.bad 1), true) else
  if t = 268443648 ∧ s = 8 then (b, F, lenF F, true) else
  if t = 268443656 ∧ s = 8 then (b, F, b.nicA, true) else
  if t = 268443672 ∧ s = 8 then (b, F, b.nicL, true) else
  (bdZ, [], 0, false)
theorem ldF_none (b : Bd) (F : List ByteArray) (t s n : Int) (h : ¬ (t = 33554432 ∧ s = 4) ∧ ¬ (t = 33570816 ∧ s = 8) ∧ ¬ (t = 33603576 ∧ s = 8) ∧ ¬ (t = 268435456 ∧ s = 1) ∧ ¬ (t = 268435457 ∧ s = 1) ∧ ¬ (t = 268435461 ∧ s = 1) ∧ ¬ (t = 268439552 ∧ s = 8) ∧ ¬ (t = 268439560 ∧ s = 8) ∧ ¬ (t = 268439576 ∧ s = 8) ∧ ¬ (t = 268443648 ∧ s = 8) ∧ ¬ (t = 268443656 ∧ s = 8) ∧ ¬ (t = 268443672 ∧ s = 8)) : ldF b F t s n = (bdZ, [], 0, false) := by
  obtain ⟨h0, h1, h2, h3, h4, h5, h6, h7, h9, h10, h11, h13⟩ := h
  unfold ldF
  rw [if_neg h0, if_neg h1, if_neg h2, if_neg h3, if_neg h4, if_neg h5, if_neg h6, if_neg h7, if_neg h9, if_neg h10, if_neg h11, if_neg h13]
/-- A board with its frames, told as a part of a result. -/
def Told (W : World) (r : Bd) (F : List ByteArray) (f : Value → Value) (e : Ending) (W' : World) : Prop :=
  ∃ p c, e = .returned (f (bdV (r.at p F.length c))) ∧ OwnF W' W.heap.size (.slice p F.length c) F ∧ Below W.heap.size W W'
theorem results_three {fn : Func} {p u x : Tmp} (h : fn.results = #[.cell p 35, .tmp u, .tmp x]) (tmps : Array Value) (w : World) (g : Nat) (k : Bd) (v y : Value) (hp : tmps.getD p undef = .pointer (some ⟨g, 0, none⟩)) (hg : Box w g k) (hv : tmps.getD u undef = v) (hy : tmps.getD x undef = y) :
    (results fn tmps).run Try.prog w = .ok (.tuple #[bdV k, v, y]) w := by
  have hp' : tmps[p]?.getD undef = .pointer (some ⟨g, 0, none⟩) := by simpa using hp
  have hv' : tmps[u]?.getD undef = v := by simpa using hv
  have hy' : tmps[x]?.getD undef = y := by simpa using hy
  simp [results, h, hp', hv', hy', asAddr, Box.result hg]
theorem results_two {fn : Func} {p u : Tmp} (h : fn.results = #[.cell p 35, .tmp u]) (tmps : Array Value) (w : World) (g : Nat) (k : Bd) (v : Value) (hp : tmps.getD p undef = .pointer (some ⟨g, 0, none⟩)) (hg : Box w g k) (hv : tmps.getD u undef = v) :
    (results fn tmps).run Try.prog w = .ok (.tuple #[bdV k, v]) w := by
  rw [results_cell_tmp h, hp, hv]
  simp [asAddr, Result.andThen, Box.result hg]
theorem fat_none (w : World) : FAt w (.slice none 0 0) [] := ⟨rfl, .inl ⟨rfl, rfl⟩⟩
theorem told_none {W W' : World} (f : Value → Value) (hb : Below W.heap.size W W') : Told W bdZ [] f (.returned (f (bdV bdZ))) W' := ⟨none, 0, rfl, World.ownsRow_nil W' _ _ _, hb⟩
theorem KA.more0 {W w : World} {b r : Bd} (k : KA W w b r) : KB W (w.alloc zeroO) w.heap.size b bdZ r := k.more bdZ
theorem KB.drewN {W w : World} {z : Nat} {b o r : Bd} (k : KB W w z b o r) (n : Nat) : KB W (w.drewN n) z b o r := k.next (below_drewN (Below.refl _ _) n)
theorem KA.drewN {W w : World} {b r : Bd} (k : KA W w b r) (n : Nat) : KA W (w.drewN n) b r := k.next (below_drewN (Below.refl _ _) n)
theorem OwnF.drewN {w : World} {B : Nat} {v : Value} {F : List ByteArray} (h : OwnF w B v F) (n : Nat) : OwnF (w.drewN n) B v F := h.next (below_drewN (Below.refl _ _) n)

end Go.Proofs.Ytgflnfmnjlmenaa
namespace Go
theorem exec_load {P : Program} {ρ : Operand → Value} {o : Oper} {t : TypeId} {p : Operand} (ho : o.op = .load t p) {v r : Value} {w : World} (hrun : (Instr.loadAt t v).run P w = .ok r w) (hp : ρ p = v) : (execOp ρ o).run P w = .ok (.value r) w := by
  unfold execOp
  simp [ho, hp, hrun, Result.andThen]
theorem still_load {P : Program} {ops : Array Oper} {w : World} {Q : Act → Prop} {rest : List Oper} {o : Oper} {a : Act} (hgd : o.guard = none) {t : TypeId} {p : Operand} (ho : o.op = .load t p) {v r : Value} (hrun : (Instr.loadAt t v).run P w = .ok r w) (hp : a.eval p = v) (h : wpStill P ops w Q rest (a.put o.dst r)) : wpStill P ops w Q (o :: rest) a := by
  refine wpStill_step fun K hK => ?_
  simp only [Region.wanted, hgd, if_true]
  unfold Oper.still
  rw [exec_load ho hrun hp]
  exact ⟨rfl, hK _ h⟩
theorem yields_load {P : Program} {ops : Array Oper} {S : World → Prop} {o : Oper} {a : Act} {t : TypeId} {p : Operand} {v r : Value} (hgd : o.guard = none) (ho : o.op = .load t p) (hp : a.eval p = v) (h : ∀ w, S w → (Instr.loadAt t v).run P w = .ok r w) : YieldsIf P ops S o r a :=
  .inl ⟨by simp [Region.wanted, hgd], fun w hw => exec_load ho (h w hw) hp⟩
theorem held_store {P : Program} {md : Region.Mode} {ops : Array Oper} {Q : Exit → Act → World → Prop} {S : World → Prop} {fuel : Nat} {listed : Array Bool} {a : Act} {w w' : World} {i : Nat} {o : Oper} {t : TypeId} {p x : Operand} {v u : Value}
    (hr : Region.ready md ops listed = [i]) (hi : ops[i]? = some o) (hgd : o.guard = none) (ho : o.op = .store t p x) (hp : a.eval p = v) (hx : a.eval x = u) (hrun : (Instr.storeAt t v u).run P w = .ok () w') (hS : S w')
    (h : wpAnyH P md ops Q S fuel (listed.setIfInBounds i true) (a.put o.dst undef) w') : wpAnyH P md ops Q S (fuel + 1) listed a w := by
  refine wpAnyH_ready (rs := [i]) hr (by simp) (AllReadyH.cons hi (fun K hK => ?_) AllReadyH.nil)
  simp only [Region.wanted, hgd, if_true]
  unfold Oper.wp
  simp [execOp, ho, hp, hx, hrun, Result.andThen]
  exact hK.out _ _ hS (fun _ => h)
theorem held_op {P : Program} {md : Region.Mode} {ops : Array Oper} {Q : Exit → Act → World → Prop} {S : World → Prop} {fuel : Nat} {listed : Array Bool} {a : Act} {w w' : World} {i : Nat} {o : Oper} {v : Value}
    (hr : Region.ready md ops listed = [i]) (hi : ops[i]? = some o) (hgd : o.guard = none) (hrun : (execOp a.eval o).run P w = .ok (.value v) w') (hS : S w')
    (h : wpAnyH P md ops Q S fuel (listed.setIfInBounds i true) (a.put o.dst v) w') : wpAnyH P md ops Q S (fuel + 1) listed a w := by
  refine wpAnyH_ready (rs := [i]) hr (by simp) (AllReadyH.cons hi (fun K hK => ?_) AllReadyH.nil)
  simp only [Region.wanted, hgd, if_true]
  unfold Oper.wp
  rw [hrun]
  exact hK.out _ _ hS (fun _ => h)
theorem held_call {P : Program} {md : Region.Mode} {ops : Array Oper} {Q : Exit → Act → World → Prop} {S : World → Prop} {fuel : Nat} {listed : Array Bool} {a : Act} {w : World} {i : Nat} {o : Oper} {v : Value} {f : FuncId} {args : Array Value}
    (hr : Region.ready md ops listed = [i]) (hi : ops[i]? = some o) (hgd : o.guard = none) (hrun : (execOp a.eval o).run P w = .ok (.enter f args) w) (hc : Calls P f args w fun e w' => e = .returned v ∧ w = w') (hS : S w)
    (h : wpAnyH P md ops Q S fuel (listed.setIfInBounds i true) (a.put o.dst v) w) : wpAnyH P md ops Q S (fuel + 1) listed a w := by
  refine wpAnyH_ready (rs := [i]) hr (by simp) (AllReadyH.cons hi (fun K hK => ?_) AllReadyH.nil)
  simp only [Region.wanted, hgd, if_true]
  unfold Oper.wp
  rw [hrun, Oper.upon_enter]
  refine hc.mono ?_
  rintro e w' ⟨rfl, rfl⟩
  exact hK.out _ _ hS (fun _ => h)

end Go
namespace Go.Proofs.Ytgflnfmnjlmenaa
open Go.RowKit Go.Deep Go.Joins

end Go.Proofs.Ytgflnfmnjlmenaa
