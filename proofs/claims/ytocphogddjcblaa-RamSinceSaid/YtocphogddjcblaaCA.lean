/- Next of the program. -/
import Derived.Test.YtocphogddjcblaaI
namespace Go.Proofs.Ytocphogddjcblaa
open Go.RowKit Go.Deep Go.Joins
def lim62 : Int := 4611686018427387904
def nextE (E : Int) : Int := if E < 4611686018427387904 then E + 1 else E
/-- A copy with a new epoch. -/
def NextMem (w : World) (D : List UInt8) (M : List Int) (E : Int) (e : Ending) (w' : World) : Prop :=
  ∃ dv mv, e = .returned (.tuple #[.agg #[dv, mv, .int .u64 (nextE E)], .int .u64 (nextE E)]) ∧ OwnD w' w.heap.size dv D ∧ OwnM w' w.heap.size mv M ∧ Below w.heap.size w w'
structure NextAt (w wx : World) (z : Nat) (a b : Value) (F : Int) (D : List UInt8) (M : List Int) : Prop where
  z : RamVar wx z a b F
  d : OwnD wx (w.heap.size + 2) a D
  m : OwnM wx (w.heap.size + 2) b M
  r : RamVar wx (w.heap.size + 1) (.slice none 0 0) (.slice none 0 0) 0
  below : Below w.heap.size w wx
theorem two_boxes1 (w : World) (a b : Value) (E : Int) (o : Obj) : RamVar ((w.alloc o).alloc (.cells #[a, b, .int .u64 E] 26)) (w.heap.size + 1) a b E := by
  have h := heap_alloc_new (w.alloc o) (.cells #[a, b, .int .u64 E] 26)
  rwa [World.size_alloc] at h
set_option maxRecDepth 100000 in
set_option maxHeartbeats 2000000 in
theorem next_any (dv mv : Value) (E : Int) (D : List UInt8) (M : List Int) (w : World) (hd : DAt w dv D) (hm : MAt w mv M) (hD : D.length ≤ 140737488351232) (hM : M.length ≤ 17592186043904) (hE0 : 0 ≤ E) (hE1 : E ≤ 18446744073709551615) :
    Calls Try.prog 28 #[.agg #[dv, mv, .int .u64 E]] w (NextMem w D M E) := by
  obtain ⟨p, cap, rfl⟩ := hd.is
  obtain ⟨q, cap2, rfl⟩ := hm.is
  have HD := Lib.hid hd
  have HM := Lib.hid hm
  have HB := Lib.hid (below2 w (.cells #[.slice p D.length cap, .slice q M.length cap2, .int .u64 E] 26) (.cells #[.slice none 0 0, .slice none 0 0, .int .u64 0] 26))
  have HR := Lib.hid (two_boxes1 w (.slice none 0 0) (.slice none 0 0) 0 (.cells #[.slice p D.length cap, .slice q M.length cap2, .int .u64 E] 26))
  have HE := Lib.hid (And.intro hE0 hE1)
  clear hd hm hE0 hE1
  go_enter Try.func28, Try.ntmps28
  go_wp2_with fail
  refine (copy_any _ _ E D M _ (HD.out.below HB.out) (HM.out.below HB.out) hD hM).mono ?_
  rintro e w2 ⟨dv1, mv1, rfl, hd1, hm1, hb2⟩
  obtain ⟨p1, cap1, rfl⟩ := owns_shape hd1
  obtain ⟨q1, cap11, rfl⟩ := owns_shape hm1
  have hbn := below1 w2 (.cells #[.slice p1 D.length cap1, .slice q1 M.length cap11, .int .u64 E] 26)
  have HZ := Lib.hid (show RamVar (w2.alloc (.cells #[.slice p1 D.length cap1, .slice q1 M.length cap11, .int .u64 E] 26)) w2.heap.size (.slice p1 D.length cap1) (.slice q1 M.length cap11) E from heap_alloc_new _ _)
  have HB3 := Lib.hid (below_then (below_then HB.out hb2) hbn)
  have HR3 := Lib.hid ((HR.out.below hb2).below hbn)
  have hsz : w.heap.size + 2 ≤ ((w.alloc (.cells #[.slice p D.length cap, .slice q M.length cap2, .int .u64 E] 26)).alloc (.cells #[.slice none 0 0, .slice none 0 0, .int .u64 0] 26)).heap.size := by simp
  have HD3 := Lib.hid (show OwnD _ (w.heap.size + 2) _ D from owns_base (hd1.below hbn) hsz)
  have HM3 := Lib.hid (show OwnM _ (w.heap.size + 2) _ M from owns_base (hm1.below hbn) hsz)
  have hz8 : w.heap.size + 1 < w2.heap.size := (HR.out.below hb2).lt
  clear hd1 hm1 hb2 hbn HB HR hsz
  go_upto_if 9 with fail
  generalize w2.alloc (.cells #[.slice p1 D.length cap1, .slice q1 M.length cap11, .int .u64 E] 26) = w3 at *
  generalize w2.heap.size = z at *
  go_cut [] (fun wx => NextAt w wx z (.slice p1 D.length cap1) (.slice q1 M.length cap11) (nextE E) D M)
  case first =>
    obtain ⟨z0, z1, z2⟩ := HZ.out.cells
    have z3 := HZ.out.free 2
    by_cases hlt : E < 4611686018427387904
    · refine wp_cond_true (show Value.bool (decide (E < 4611686018427387904)) = .bool true by rw [decide_eq_true hlt]) ?_
      have he0 := HE.out.1
      have hv := heap_setCell_same w3 z 2 _ 26 (.int .u64 (E + 1)) HZ.out
      have ht : Touch w3 (w3.setCell ⟨z, 2, none⟩ (.int .u64 (E + 1))) (fun k => k = z) := (Touch.refl w3 (fun k => k = z)).setCell (.inl rfl) _
      have HNX := Lib.hid (show NextAt w (w3.setCell ⟨z, 2, none⟩ (.int .u64 (E + 1))) z (.slice p1 D.length cap1) (.slice q1 M.length cap11) (nextE E) D M from
        ⟨by rw [show nextE E = E + 1 from if_pos hlt]; exact hv, owns_touch HD3.out ht (fun g hg e => not_at HD3.out HZ.out (by decide) (by rw [← e]; exact hg)), owns_touch HM3.out ht (fun g hg e => not_at HM3.out HZ.out (by decide) (by rw [← e]; exact hg)),
          HR3.out.touch ht (by omega), Touch.below HB3.out ht (fun k hk => by omega) HB3.out.size⟩)
      clear hv ht
      go_wp2_with fail
      go_meet
      exact HNX.out
    · refine wp_cond_false (show Value.bool (decide (E < 4611686018427387904)) = .bool false by rw [decide_eq_false hlt]) ?_
      go_wp2_with fail
      go_meet
      exact ⟨by rw [show nextE E = E from if_neg (by omega)]; exact HZ.out, HD3.out, HM3.out, HR3.out, HB3.out⟩
  case rest =>
    have HC := Lib.hid hcut
    obtain ⟨z0, z1, z2⟩ := hcut.z.cells
    obtain ⟨r0, r1, r2⟩ := hcut.r.cells
    have r3 := hcut.r.free 0
    have r4 := hcut.r.free 1
    have r5 := hcut.r.free 2
    have HFIN := Lib.hid (hcut.r.store (.slice p1 D.length cap1) (.slice q1 M.length cap11) (nextE E))
    generalize hF : nextE E = F at *
    have HF := Lib.hid hF
    clear hF
    have hpost : NextMem w D M E (.returned (.tuple #[.agg #[.slice p1 D.length cap1, .slice q1 M.length cap11, .int .u64 F], .int .u64 F])) (((wc.setCell ⟨w.heap.size + 1, 0, none⟩ (.slice p1 D.length cap1)).setCell ⟨w.heap.size + 1, 1, none⟩ (.slice q1 M.length cap11)).setCell ⟨w.heap.size + 1, 2, none⟩ (.int .u64 F)).drew := by
      have ht : Touch wc (((wc.setCell ⟨w.heap.size + 1, 0, none⟩ (.slice p1 D.length cap1)).setCell ⟨w.heap.size + 1, 1, none⟩ (.slice q1 M.length cap11)).setCell ⟨w.heap.size + 1, 2, none⟩ (.int .u64 F)).drew (fun k => k = w.heap.size + 1) :=
        ((((Touch.refl wc (fun k => k = w.heap.size + 1)).setCell (.inl rfl) _).setCell (.inl rfl) _).setCell (.inl rfl) _).drew
      refine ⟨_, _, by rw [HF.out], ?_, ?_, Touch.below HC.out.below ht (fun k hk => by omega) HC.out.below.size⟩
      · exact owns_base (owns_touch HC.out.d ht (fun g hg e => by have := (owns_lt HC.out.d hg).1; omega)) (by omega)
      · exact owns_base (owns_touch HC.out.m ht (fun g hg e => by have := (owns_lt HC.out.m hg).1; omega)) (by omega)
    have HPOST := Lib.hid hpost
    clear hpost hcut HZ HD3 HM3 HR3 HB3 HE
    go_wp2_with fail
    go_region
    go_wp2_with fail
    obtain ⟨f0, f1, f2⟩ := HFIN.out.cells
    exact bodyPost_ret (v := .tuple #[.agg #[.slice p1 D.length cap1, .slice q1 M.length cap11, .int .u64 F], .int .u64 F]) (by simp [results, Try.results28, go_sem, f0, f1, f2]) rfl HPOST.out
end Go.Proofs.Ytocphogddjcblaa
