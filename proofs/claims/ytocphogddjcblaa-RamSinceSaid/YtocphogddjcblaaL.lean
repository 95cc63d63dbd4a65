/- Store of the program. -/
import Derived.Test.YtocphogddjcblaaI
import Derived.Test.YtocphogddjcblaaJ
import Derived.Test.YtocphogddjcblaaK
namespace Go.Proofs.Ytocphogddjcblaa
open Go.RowKit Go.Deep Go.Joins
theorem two_boxes (w : World) (a b : Value) (E : Int) (o : Obj) : RamVar ((w.alloc o).alloc (.cells #[a, b, .int .u64 E] 26)) (w.heap.size + 1) a b E := by
  have h := heap_alloc_new (w.alloc o) (.cells #[a, b, .int .u64 E] 26)
  rwa [World.size_alloc] at h
theorem first_box (w : World) (a b : Value) (E : Int) (o : Obj) : RamVar ((w.alloc (.cells #[a, b, .int .u64 E] 26)).alloc o) w.heap.size a b E :=
  (heap_alloc_old _ (by simp)).trans (heap_alloc_new _ _)
set_option maxHeartbeats 1000000 in
theorem store_arg (v : Value) (mv : Value) (E t size n : Int) (w : World) (hl : loadsB size = false) :
    Calls Try.prog 14 #[.agg #[v, mv, .int .u64 E], .int .u64 t, .int .i64 size, .int .u64 n] w fun e w' => e = .returned (.tuple #[.agg #[.slice none 0 0, .slice none 0 0, .int .u64 0], .int .i64 1]) ∧ Below w.heap.size w w' := by
  have HL := Lib.hid hl
  clear hl
  go_enter Try.func14, Try.ntmps14
  go_wp2_with fail
  refine (loads_any _ _).mono ?_
  rintro e w1 ⟨rfl, rfl⟩
  rw [HL.out]
  go_wp2_with fail
  exact bodyPost_ret (v := .tuple #[.agg #[.slice none 0 0, .slice none 0 0, .int .u64 0], .int .i64 1]) (by simp [results, Try.results14, go_sem]) rfl ⟨rfl, below2 w _ _⟩
set_option maxHeartbeats 1000000 in
theorem store_ram (p : Option Addr) (n cap : Nat) (mv : Value) (E t size x : Int) (w : World) (hn : n ≤ 9223372036854775807) (ht0 : 0 ≤ t) (ht1 : t ≤ 18446744073709551615) (hl : loadsB size = true) (hth : thereB n t size = false) :
    Calls Try.prog 14 #[.agg #[.slice p n cap, mv, .int .u64 E], .int .u64 t, .int .i64 size, .int .u64 x] w fun e w' => e = .returned (.tuple #[.agg #[.slice none 0 0, .slice none 0 0, .int .u64 0], .int .i64 50]) ∧ Below w.heap.size w w' := by
  have hs : 1 ≤ size ∧ size ≤ 8 := by unfold loadsB at hl; simp at hl; omega
  have HL := Lib.hid hl
  have HT := Lib.hid hth
  clear hl hth
  go_enter Try.func14, Try.ntmps14
  go_wp2_with fail
  refine (loads_any _ _).mono ?_
  rintro e w1 ⟨rfl, rfl⟩
  rw [HL.out]
  go_wp2_with fail
  refine (there_any _ _ _ _ _ _ _ _ hn ht0 ht1 (by omega) (by omega)).mono ?_
  rintro e w1 ⟨rfl, hb1⟩
  rw [HT.out]
  have hr := (two_boxes w (.slice none 0 0) (.slice none 0 0) 0 (.cells #[.slice p n cap, mv, .int .u64 E] 26)).below hb1
  obtain ⟨r0, r1, r2⟩ := hr.cells
  have r3 := hr.free 0
  have r4 := hr.free 1
  have r5 := hr.free 2
  have HFIN := Lib.hid (hr.store (.slice none 0 0) (.slice none 0 0) 0)
  have HB := Lib.hid (below_then (below2 w _ _) hb1)
  clear hb1 hr
  go_wp2_with fail
  obtain ⟨f0, f1, f2⟩ := HFIN.out.cells
  exact bodyPost_ret (v := .tuple #[.agg #[.slice none 0 0, .slice none 0 0, .int .u64 0], .int .i64 50]) (by simp [results, Try.results14, go_sem, f0, f1, f2]) rfl ⟨rfl, ((HB.out.setCell (Nat.le_succ _) _).setCell (Nat.le_succ _) _).setCell (Nat.le_succ _) _⟩
set_option maxRecDepth 100000 in
set_option maxHeartbeats 2000000 in
theorem store_any (dv mv : Value) (E : Int) (D : List UInt8) (M : List Int) (t : Int) (size x : Nat) (w : World) (hd : DAt w dv D) (hm : MAt w mv M) (hD : D.length ≤ 140737488351232) (hM : M.length ≤ 17592186043904) (ht0 : 0 ≤ t) (ht1 : t ≤ 18446744073709551615)
    (hx : x < 18446744073709551616) (hl : loadsB size = true) (hth : thereB D.length t size = true) :
    Calls Try.prog 14 #[.agg #[dv, mv, .int .u64 E], .int .u64 t, .int .i64 size, .int .u64 x] w (NewMem w (putD D t (bytesN x size)) (putM D.length M E t (bytesN x size)) E 0) := by
  obtain ⟨p, cap, rfl⟩ := hd.is
  obtain ⟨q, cap2, rfl⟩ := hm.is
  have hDle := hd.le
  have hs : 1 ≤ size ∧ size ≤ 8 := by unfold loadsB at hl; simp at hl; omega
  have HL := Lib.hid hl
  have HT := Lib.hid hth
  have HD := Lib.hid hd
  have HM := Lib.hid hm
  clear hl hth hd hm
  go_enter Try.func14, Try.ntmps14
  go_wp2_with fail
  refine (loads_any _ _).mono ?_
  rintro e w1 ⟨rfl, rfl⟩
  rw [HL.out]
  go_wp2_with fail
  refine (there_any _ _ _ _ _ _ _ _ hDle ht0 ht1 (by omega) (by omega)).mono ?_
  rintro e w1 ⟨rfl, hb1⟩
  rw [HT.out]
  have hbw := below_then (below2 w _ _) hb1
  have hx1 := (first_box w (.slice p D.length cap) (.slice q M.length cap2) E (.cells #[.slice none 0 0, .slice none 0 0, .int .u64 0] 26)).below hb1
  have hr1 := (two_boxes w (.slice none 0 0) (.slice none 0 0) 0 (.cells #[.slice p D.length cap, .slice q M.length cap2, .int .u64 E] 26)).below hb1
  obtain ⟨x0, x1, x2⟩ := hx1.cells
  have HB := Lib.hid hbw
  have HX := Lib.hid hx1
  have HR := Lib.hid hr1
  clear hbw hx1 hr1 hb1
  go_wp2_with fail
  refine (copy_any _ _ E D M _ (HD.out.below HB.out) (HM.out.below HB.out) hD hM).mono ?_
  rintro e w2 ⟨dv', mv', rfl, hd2, hm2, hb2⟩
  obtain ⟨p', cap', rfl⟩ := owns_shape hd2
  obtain ⟨q', cap2', rfl⟩ := owns_shape hm2
  clear x0 x1 x2
  have HB2 := Lib.hid (below_then HB.out hb2)
  have HR2 := Lib.hid (HR.out.below hb2)
  have HD2 := Lib.hid hd2
  have HM2 := Lib.hid hm2
  have HS := Lib.hid hb2.size
  clear hb2 hd2 hm2
  go_wp2_with fail
  refine (bytes_any _ _ _ hx hs.2).mono ?_
  rintro e w3 ⟨rfl, hb3⟩
  have hsz1 : w.heap.size + 1 < w1.heap.size := HR.out.lt
  have hz3 : RamVar w3 w2.heap.size (.slice p' D.length cap') (.slice q' M.length cap2') E := (show RamVar (w2.alloc (.cells #[.slice p' D.length cap', .slice q' M.length cap2', .int .u64 E] 26)) w2.heap.size _ _ E from heap_alloc_new w2 _).below hb3
  have hd3 := (HD2.out.below (below1 w2 (.cells #[.slice p' D.length cap', .slice q' M.length cap2', .int .u64 E] 26))).below hb3
  have hm3 := (HM2.out.below (below1 w2 (.cells #[.slice p' D.length cap', .slice q' M.length cap2', .int .u64 E] 26))).below hb3
  have hr3 := (HR2.out.below (below1 w2 (.cells #[.slice p' D.length cap', .slice q' M.length cap2', .int .u64 E] 26))).below hb3
  have HB3 := Lib.hid (below_then (below_then HB2.out (below1 w2 (.cells #[.slice p' D.length cap', .slice q' M.length cap2', .int .u64 E] 26))) hb3)
  have HZ3 := Lib.hid hz3
  have HD3 := Lib.hid hd3
  have HM3 := Lib.hid hm3
  have HR3 := Lib.hid hr3
  clear hz3 hd3 hm3 hr3 hb3 HD2 HM2 HR2 HR
  go_wp2_with fail
  refine (put_any _ _ _ _ _ _ _ _ _ _ HZ3.out HD3.out HM3.out ht0 ht1 (by rw [bytesN_size _ _ hs.2]; omega)).mono ?_
  rintro e w4 ⟨rfl, hp⟩
  have hS : ∀ k, PutS (.slice p' D.length cap') (.slice q' M.length cap2') k → w1.heap.size ≤ k := fun k hk => by
    rcases hk with hk | hk
    · exact (owns_lt HD3.out hk.symm).1
    · exact (owns_lt HM3.out hk.symm).1
  have hr4 := HR3.out.touch hp.t (fun hk => by have := hS _ hk; omega)
  have hb4 : Below w.heap.size w w4 := Touch.below HB3.out hp.t (fun k hk => by have := hS _ hk; omega) HB3.out.size
  obtain ⟨z0, z1, z2⟩ := hp.var.cells
  obtain ⟨r0, r1, r2⟩ := hr4.cells
  have r3 := hr4.free 0
  have r4 := hr4.free 1
  have r5 := hr4.free 2
  have HFIN := Lib.hid (hr4.store (.slice p' D.length cap') (.slice q' M.length cap2') E)
  have hpost : NewMem w (putD D t (bytesN x size)) (putM D.length M E t (bytesN x size)) E 0 (.returned (.tuple #[.agg #[.slice p' D.length cap', .slice q' M.length cap2', .int .u64 E], .int .i64 0]))
      (((w4.setCell ⟨w.heap.size + 1, 0, none⟩ (.slice p' D.length cap')).setCell ⟨w.heap.size + 1, 1, none⟩ (.slice q' M.length cap2')).setCell ⟨w.heap.size + 1, 2, none⟩ (.int .u64 E)) := by
    have ht : Touch w4 (((w4.setCell ⟨w.heap.size + 1, 0, none⟩ (.slice p' D.length cap')).setCell ⟨w.heap.size + 1, 1, none⟩ (.slice q' M.length cap2')).setCell ⟨w.heap.size + 1, 2, none⟩ (.int .u64 E)) (fun k => k = w.heap.size + 1) :=
      (((Touch.refl w4 (fun k => k = w.heap.size + 1)).setCell (.inl rfl) _).setCell (.inl rfl) _).setCell (.inl rfl) _
    refine ⟨_, _, rfl, ?_, ?_, ((hb4.setCell (Nat.le_succ _) _).setCell (Nat.le_succ _) _).setCell (Nat.le_succ _) _⟩
    · exact owns_base (owns_touch hp.d ht (fun g hg e => by have := (owns_lt hp.d hg).1; omega)) (by omega)
    · exact owns_base (owns_touch hp.m ht (fun g hg e => by have := (owns_lt hp.m hg).1; omega)) (by omega)
  have HPOST := Lib.hid hpost
  clear hr4 hb4 hpost hp HB3 HZ3 HD3 HM3 HR3 hS
  go_wp2_with fail
  obtain ⟨f0, f1, f2⟩ := HFIN.out.cells
  exact bodyPost_ret (v := .tuple #[.agg #[.slice p' D.length cap', .slice q' M.length cap2', .int .u64 E], .int .i64 0]) (by simp [results, Try.results14, go_sem, f0, f1, f2]) rfl HPOST.out
end Go.Proofs.Ytocphogddjcblaa
