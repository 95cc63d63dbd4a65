/- Copy of a board, both sides. -/
import Derived.Test.YtnedhjaphfjdmaaDS
import Derived.Test.YtnedhjaphfjdmaaRP
namespace Go.Proofs.Ytnedhjaphfjdmaa
open Go.RowKit Go.Deep Go.Joins

end Go.Proofs.Ytnedhjaphfjdmaa
namespace Go
end Go
namespace Go.Proofs.Ytnedhjaphfjdmaa
open Go.RowKit Go.Deep Go.Joins
/-- A copy of a board, with frames of the call's own. -/
def Copied (W : World) (b : Bd) (F : List ByteArray) (e : Ending) (W' : World) : Prop :=
  ∃ p c, e = .returned (bdV (b.at p F.length c)) ∧ OwnF W' W.heap.size (.slice p F.length c) F ∧ Below W.heap.size W W'
theorem OwnF.base {w : World} {B B' : Nat} {v : Value} {F : List ByteArray} (h : OwnF w B v F) (hB : B' ≤ B) : OwnF w B' v F := owns_base h hB
theorem OwnF.over {w : World} {B g : Nat} {v : Value} {F : List ByteArray} {b : Bd} (h : OwnF w B v F) (k : Box w g b) (cs : Array Value) : OwnF (w.setRow g cs) B v F :=
  owns_touch h ((Touch.refl w (fun k => k = g)).setRow (.inl rfl) cs) (fun g' e e2 => h.not_box k (by rw [e, e2]))
theorem OwnF.put {w w' : World} {B g : Nat} {v : Value} {F : List ByteArray} {b : Bd} {cs : Array Value} (h : OwnF w B v F) (k : Box w g b) (hw : w' = w.setRow g cs) : OwnF w' B v F := by
  subst hw; exact h.over k cs
set_option maxRecDepth 10000 in
set_option maxHeartbeats 1000000 in
theorem copy_bd (b : Bd) (F : List ByteArray) (W : World) (hf : FAt W (.slice b.fp b.fn b.fc) F) (hF : F.length ≤ 8796093022208) :
    Calls Try.prog 26 #[bdV b] W (Copied W b F) := by
  go_enter Try.func26, Try.ntmps26
  go_upto_region 1 with (fail)
  have X := Lib.hid (KA.new W b)
  generalize (W.alloc (bdO b)).alloc zeroO = wx at X ⊢
  obtain ⟨p, cap, w2, hrun, ho, hb⟩ := run_frames wx 28 _ _ _ F (hf.next X.out.below) hF
  have HR := Lib.hid hrun
  have X2 := Lib.hid (X.out.next hb)
  have HO := Lib.hid (show OwnF w2 W.heap.size _ _ from ho.base X.out.below.size)
  clear hrun ho hb
  go_wp2_with (first | (with_reducible refine wpList_load_by rfl rfl (Box.load_fr X.out.own) rfl ?_) | (at_builtin; (refine wpList_append_run rfl _ _ 28 rfl _ _ _ rfl rfl _ HR.out ?_)) | (with_reducible refine Box.w_fr X2.out.own rfl rfl rfl rfl ?_; intro wy hwy; have X3 := Lib.hid (X2.out.put hwy); have HO3 := Lib.hid (HO.out.put X2.out.own hwy); clear hwy) | (with_reducible refine wpList_load_by rfl rfl (Box.load X3.out.own) rfl ?_) | (with_reducible refine w_box X3.out.res rfl rfl rfl rfl ?_; intro wz hwz; have X4 := Lib.hid (X3.out.tell hwz); have HO4 := Lib.hid (HO3.out.put X3.out.res hwz); clear hwz) | fail)
  exact bodyPost_ret (v := bdV (b.at p F.length cap)) (results_cell_row Try.results26 _ _ (W.heap.size + 1) 35 (bdC (b.at p F.length cap)) (0, 0) _ rfl X4.out.res Try.underlying35 rfl (by rw [size35, bdC_size])) rfl ⟨p, cap, rfl, HO4.out, X4.out.below⟩
set_option maxRecDepth 10000 in
set_option maxHeartbeats 1000000 in
theorem rcopy_bd (b : Bd) (F : List ByteArray) (W : World) (hf : FAt W (.slice b.fp b.fn b.fc) F) (hF : F.length ≤ 8796093022208) :
    Calls Try.prog 29 #[bdV b] W (Copied W b F) := by
  go_enter Try.func29, Try.ntmps29
  go_upto_region 1 with (fail)
  have X := Lib.hid (KA.new W b)
  generalize (W.alloc (bdO b)).alloc zeroO = wx at X ⊢
  have hl := hf.len
  have X1 := Lib.hid (X.out.next (below1 wx (.cells #[] 9)))
  have hrd : Reads (wx.alloc (.cells #[] 9)) (.slice b.fp b.fn b.fc) 1 b.fn (sC F) := by
    have h := (hf.next X.out.below).next (below1 wx (.cells #[] 9))
    unfold FAt at h
    rwa [← hl] at h
  obtain ⟨i, hi, hz, hs, hb⟩ := info9
  obtain ⟨p, cap, w2, hrun, ho, ht⟩ := run_append_first (wx.alloc (.cells #[] 9)) 28 28 9 i (.string .empty) 16 Try.underlying28 hi hz hs hb rfl wx.heap.size wx.heap.size (heap_alloc_new _ _) (Nat.le_refl _) b.fp b.fn b.fc (sC F) hrd (sC_one F) (by unfold maxLen; omega) (by omega) (by simp)
  have hb2 : Below wx.heap.size wx w2 := Touch.below (below1 wx _) ht (fun k hk => by omega) (by simp)
  have HR := Lib.hid hrun
  have X2 := Lib.hid (X.out.next hb2)
  have HO := Lib.hid (show OwnF w2 W.heap.size (.slice p b.fn cap) F from by unfold OwnF; rw [← hl]; exact owns_base ho X.out.below.size)
  have HL := Lib.hid hl
  clear hrd hrun ho hb2 ht hf hi hz hs hb hl
  go_wp2_with (first | (with_reducible refine wpList_load_by rfl rfl (Box.load_fr X1.out.own) rfl ?_) | (at_builtin; (refine wpList_append_run rfl _ _ 28 rfl _ _ _ rfl rfl _ HR.out ?_)) | (with_reducible refine Box.w_fr X2.out.own rfl rfl rfl rfl ?_; intro wy hwy; have X3 := Lib.hid (X2.out.put hwy); have HO3 := Lib.hid (HO.out.put X2.out.own hwy); clear hwy) | (with_reducible refine wpList_load_by rfl rfl (Box.load X3.out.own) rfl ?_) | (with_reducible refine w_box X3.out.res rfl rfl rfl rfl ?_; intro wz hwz; have X4 := Lib.hid (X3.out.tell hwz); have HO4 := Lib.hid (HO3.out.put X3.out.res hwz); clear hwz) | fail)
  have hl := HL.out
  exact bodyPost_ret (v := bdV (b.at p b.fn cap)) (results_cell_row Try.results29 _ _ (W.heap.size + 1) 35 (bdC (b.at p b.fn cap)) (0, 0) _ rfl X4.out.res Try.underlying35 rfl (by rw [size35, bdC_size])) rfl ⟨p, cap, by rw [hl], by rw [← hl]; exact HO4.out, X4.out.below⟩

end Go.Proofs.Ytnedhjaphfjdmaa
