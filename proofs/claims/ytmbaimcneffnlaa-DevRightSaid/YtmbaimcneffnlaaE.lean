/- Copy of both sides. -/
import Derived.Test.YtmbaimcneffnlaaS
namespace Go.Proofs.Ytmbaimcneffnlaa
open Go.RowKit Go.Deep Go.Joins

end Go.Proofs.Ytmbaimcneffnlaa
namespace Go
theorem wpList_append_run {P : Program} {w : World} {ops : Array Oper} {rest : List Oper} {o : Oper} {a : Act} {Q : Exit → Act → World → Prop} (hgd : o.guard = none) (s x : Operand) (t : TypeId)
    (ho : o.op = .call { callee := .builtin .append, args := #[s, x], argTypes := #[t, t] }) (v u r : Value) (hs : a.eval s = v) (hx : a.eval x = u) (w' : World)
    (hrun : (Builtin.append_ #[t, t] o.type #[v, u]).run P w = .ok r w') (h : wpList P ops Q rest (a.put o.dst r) w') : wpList P ops Q (o :: rest) a w := by
  refine wpList_plain hgd fun K hK => ?_
  unfold Oper.wp
  simp [execOp, ho, resolve, invoke, builtin, hs, hx, hrun, Result.andThen]
  exact hK _ _ h

end Go
namespace Go.Proofs.Ytmbaimcneffnlaa
open Go.RowKit Go.Deep Go.Joins
theorem owns_empty {w : World} {B g : Nat} {e : TypeId} {size : Nat} (hg : w.heap[g]? = some (.cells #[] e (0, 0))) (hB : B ≤ g) : w.ownsRow B e size (.slice (some ⟨g, 0, none⟩) 0 0) 0 [] :=
  ⟨by simp, .inr ⟨g, 0, #[], rfl, hB, hg, Nat.le_refl _, Nat.zero_le _, by simp, by simp⟩⟩
theorem touch_of_grown {w w' : World} {row : Option Nat} (h : w.grownBy w' row) : Touch w w' (fun k => some k = row) := ⟨h.os, h.tape, h.output, h.size, fun k hk hne => h.block k hk hne⟩
/-- append OF A WHOLE SLICE TO AN EMPTY ROW. -/
theorem run_append_first (w : World) (t ty e : TypeId) (i : TypeInfo) (z : Value) (bytes : Nat) (ht : Try.prog.underlying t = some (.slice e)) (hi : Try.prog.info? e = some i) (hz : i.zero = some z) (hsize : i.size = 1) (hby : i.bytes = bytes) (hzs : z.cells.size = 1)
    (B g : Nat) (hg : w.heap[g]? = some (.cells #[] e (0, 0))) (hB : B ≤ g) (q : Option Addr) (n c : Nat) (cells : List Value) (hr : Reads w (.slice q n c) 1 n cells) (h1 : ∀ u ∈ cells, u.oneCell' = true) (h63 : n ≤ maxLen) (hbytes : n * bytes ≤ 140737488355328) (hbase : B ≤ w.heap.size) :
    ∃ p cap w', (Builtin.append_ #[t, t] ty #[.slice (some ⟨g, 0, none⟩) 0 0, .slice q n c]).run Try.prog w = .ok (.slice p n cap) w' ∧ w'.ownsRow B e 1 (.slice p n cap) n cells ∧ Touch w w' (fun k => k = g) := by
  have hown := owns_empty (w := w) (B := B) (size := 1) hg hB
  have hl := hr.1
  rcases hr.2 with ⟨e1, rfl⟩ | ⟨a, c2, e1, _, _, hc⟩
  · simp only [Value.slice.injEq] at e1
    obtain ⟨rfl, _, rfl⟩ := e1
    obtain rfl : cells = [] := List.eq_nil_of_length_eq_zero (by omega)
    refine ⟨_, _, w, run_append_owned_none (P := Try.prog) w B t ty e i 1 ht hi _ 0 [] hown, hown, Touch.refl _ _⟩
  · simp only [Value.slice.injEq, true_and] at e1
    obtain ⟨rfl, rfl⟩ := e1
    obtain ⟨v', w', hrun, ho, hgr, _⟩ := run_append_own (P := Try.prog) w B t ty e i z 1 bytes ht hi hz hsize hby hzs (by omega) _ 0 [] hown a n c cells hl hc h1 (by omega) (by rw [Nat.zero_add]; exact hbytes) hbase
    rw [Nat.zero_add, List.nil_append] at ho
    obtain ⟨p, cap, rfl⟩ := owns_shape ho
    exact ⟨p, cap, w', hrun, ho, (touch_of_grown hgr).mono (fun k _ hk => by cases hk; rfl)⟩
/-- A copy of a board, with frames of the call's own. -/
def Copied (W : World) (b : Bd) (F : List ByteArray) (e : Ending) (W' : World) : Prop :=
  ∃ p c, e = .returned (bdV (b.at p F.length c)) ∧ OwnF W' W.heap.size (.slice p F.length c) F ∧ Below W.heap.size W W'
theorem OwnF.base {w : World} {B B' : Nat} {v : Value} {F : List ByteArray} (h : OwnF w B v F) (hB : B' ≤ B) : OwnF w B' v F := owns_base h hB
theorem OwnF.over {w : World} {B g : Nat} {v : Value} {F : List ByteArray} {b : Bd} (h : OwnF w B v F) (k : Box w g b) (cs : Array Value) : OwnF (w.setRow g cs) B v F :=
  owns_touch h ((Touch.refl w (fun k => k = g)).setRow (.inl rfl) cs) (fun g' e e2 => h.not_box k (by rw [e, e2]))
theorem OwnF.put {w w' : World} {B g : Nat} {v : Value} {F : List ByteArray} {b : Bd} {cs : Array Value} (h : OwnF w B v F) (k : Box w g b) (hw : w' = w.setRow g cs) : OwnF w' B v F := by
  subst hw; exact h.over k cs
set_option maxRecDepth 10000 in
set_option maxHeartbeats 1000000 in
theorem copy_bd (b : Bd) (F : List ByteArray) (W : World) (hf : FAt W (.slice b.fp b.fn b.fc) F) (hF : F.length ≤ 8796093022208) :
    Calls Try.prog 20 #[bdV b] W (Copied W b F) := by
  go_enter Try.func20, Try.ntmps20
  go_upto_region 1 with (fail)
  have X := Lib.hid (KA.new W b)
  generalize (W.alloc (bdO b)).alloc zeroO = wx at X ⊢
  obtain ⟨p, cap, w2, hrun, ho, hb⟩ := run_frames wx 23 _ _ _ F (hf.next X.out.below) hF
  have HR := Lib.hid hrun
  have X2 := Lib.hid (X.out.next hb)
  have HO := Lib.hid (show OwnF w2 W.heap.size _ _ from ho.base X.out.below.size)
  clear hrun ho hb
  go_wp2_with (first | (with_reducible refine wpList_load_by rfl rfl (Box.load_fr X.out.own) rfl ?_) | (at_builtin; (refine wpList_append_run rfl _ _ 23 rfl _ _ _ rfl rfl _ HR.out ?_)) | (with_reducible refine Box.w_fr X2.out.own rfl rfl rfl rfl ?_; intro wy hwy; have X3 := Lib.hid (X2.out.put hwy); have HO3 := Lib.hid (HO.out.put X2.out.own hwy); clear hwy) | (with_reducible refine wpList_load_by rfl rfl (Box.load X3.out.own) rfl ?_) | (with_reducible refine w_box X3.out.res rfl rfl rfl rfl ?_; intro wz hwz; have X4 := Lib.hid (X3.out.tell hwz); have HO4 := Lib.hid (HO3.out.put X3.out.res hwz); clear hwz) | fail)
  exact bodyPost_ret (v := bdV (b.at p F.length cap)) (results_cell_row Try.results20 _ _ (W.heap.size + 1) 30 (bdC (b.at p F.length cap)) (0, 0) _ rfl X4.out.res Try.underlying30 rfl (by rw [size30, bdC_size])) rfl ⟨p, cap, rfl, HO4.out, X4.out.below⟩
set_option maxRecDepth 10000 in
set_option maxHeartbeats 1000000 in
theorem rcopy_bd (b : Bd) (F : List ByteArray) (W : World) (hf : FAt W (.slice b.fp b.fn b.fc) F) (hF : F.length ≤ 8796093022208) :
    Calls Try.prog 14 #[bdV b] W (Copied W b F) := by
  go_enter Try.func14, Try.ntmps14
  go_upto_region 1 with (fail)
  have X := Lib.hid (KA.new W b)
  generalize (W.alloc (bdO b)).alloc zeroO = wx at X ⊢
  have hl := hf.len
  have X1 := Lib.hid (X.out.next (below1 wx (.cells #[] 9)))
  have hrd : Reads (wx.alloc (.cells #[] 9)) (.slice b.fp b.fn b.fc) 1 b.fn (sC F) := by
    have h := (hf.next X.out.below).next (below1 wx (.cells #[] 9))
    unfold FAt at h
    rwa [← hl] at h
  obtain ⟨i, hi, hz, hs, hb⟩ := info9
  obtain ⟨p, cap, w2, hrun, ho, ht⟩ := run_append_first (wx.alloc (.cells #[] 9)) 23 23 9 i (.string .empty) 16 Try.underlying23 hi hz hs hb rfl wx.heap.size wx.heap.size (heap_alloc_new _ _) (Nat.le_refl _) b.fp b.fn b.fc (sC F) hrd (sC_one F) (by unfold maxLen; omega) (by omega) (by simp)
  have hb2 : Below wx.heap.size wx w2 := Touch.below (below1 wx _) ht (fun k hk => by omega) (by simp)
  have HR := Lib.hid hrun
  have X2 := Lib.hid (X.out.next hb2)
  have HO := Lib.hid (show OwnF w2 W.heap.size (.slice p b.fn cap) F from by unfold OwnF; rw [← hl]; exact owns_base ho X.out.below.size)
  have HL := Lib.hid hl
  clear hrd hrun ho hb2 ht hf hi hz hs hb hl
  go_wp2_with (first | (with_reducible refine wpList_load_by rfl rfl (Box.load_fr X1.out.own) rfl ?_) | (at_builtin; (refine wpList_append_run rfl _ _ 23 rfl _ _ _ rfl rfl _ HR.out ?_)) | (with_reducible refine Box.w_fr X2.out.own rfl rfl rfl rfl ?_; intro wy hwy; have X3 := Lib.hid (X2.out.put hwy); have HO3 := Lib.hid (HO.out.put X2.out.own hwy); clear hwy) | (with_reducible refine wpList_load_by rfl rfl (Box.load X3.out.own) rfl ?_) | (with_reducible refine w_box X3.out.res rfl rfl rfl rfl ?_; intro wz hwz; have X4 := Lib.hid (X3.out.tell hwz); have HO4 := Lib.hid (HO3.out.put X3.out.res hwz); clear hwz) | fail)
  have hl := HL.out
  exact bodyPost_ret (v := bdV (b.at p b.fn cap)) (results_cell_row Try.results14 _ _ (W.heap.size + 1) 30 (bdC (b.at p b.fn cap)) (0, 0) _ rfl X4.out.res Try.underlying30 rfl (by rw [size30, bdC_size])) rfl ⟨p, cap, by rw [hl], by rw [← hl]; exact HO4.out, X4.out.below⟩

end Go.Proofs.Ytmbaimcneffnlaa
