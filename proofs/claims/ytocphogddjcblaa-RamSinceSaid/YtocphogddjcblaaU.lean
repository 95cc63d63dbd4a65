/- Store of the reference; both Stores by one result. -/
import Derived.Test.YtocphogddjcblaaP
import Derived.Test.YtocphogddjcblaaQ
import Derived.Test.YtocphogddjcblaaR
import Derived.Test.YtocphogddjcblaaL
namespace Go.Proofs.Ytocphogddjcblaa
open Go.RowKit Go.Deep Go.Joins
def stB (n : Nat) (t size : Int) : Bool := loadsB size && thereB n t size
def stD (D : List UInt8) (t size : Int) (x : Nat) : List UInt8 := if stB D.length t size then putD D t (bytesN x size.toNat) else []
def stM (n : Nat) (M : List Int) (E t size : Int) (x : Nat) : List Int := if stB n t size then putM n M E t (bytesN x size.toNat) else []
def stX (n : Nat) (E t size : Int) : Int := if stB n t size then E else 0
def stE (n : Nat) (t size : Int) : Int := if loadsB size then (if thereB n t size then 0 else 50) else 1
def StoreRes (w : World) (D : List UInt8) (M : List Int) (E t size : Int) (x : Nat) (e : Ending) (w' : World) : Prop := NewMem w (stD D t size x) (stM D.length M E t size x) (stX D.length E t size) (stE D.length t size) e w'
theorem newMem_nil {w w' : World} {er : Int} (hb : Below w.heap.size w w') : NewMem w [] [] 0 er (.returned (.tuple #[.agg #[.slice none 0 0, .slice none 0 0, .int .u64 0], .int .i64 er])) w' :=
  ⟨_, _, rfl, World.ownsRow_nil _ _ _ _, World.ownsRow_nil _ _ _ _, hb⟩
theorem store_all (dv mv : Value) (E : Int) (D : List UInt8) (M : List Int) (t size : Int) (x : Nat) (w : World) (hd : DAt w dv D) (hm : MAt w mv M) (hD : D.length ≤ 140737488351232) (hM : M.length ≤ 17592186043904) (ht0 : 0 ≤ t) (ht1 : t ≤ 18446744073709551615)
    (hx : x < 18446744073709551616) :
    Calls Try.prog 14 #[.agg #[dv, mv, .int .u64 E], .int .u64 t, .int .i64 size, .int .u64 x] w (StoreRes w D M E t size x) := by
  unfold StoreRes stD stM stX stE stB
  rcases Bool.eq_false_or_eq_true (loadsB size) with hl | hl
  · rcases Bool.eq_false_or_eq_true (thereB D.length t size) with ht | ht
    · have h1 := (there_iff.1 ht).1
      obtain ⟨sz, rfl⟩ : ∃ sz : Nat, size = sz := ⟨size.toNat, by omega⟩
      rw [hl, ht]
      exact store_any dv mv E D M t sz x w hd hm hD hM ht0 ht1 hx hl ht
    · rw [hl, ht]
      obtain ⟨p, cap, rfl⟩ := hd.is
      refine (store_ram p D.length cap mv E t size x w hd.le ht0 ht1 hl ht).mono ?_
      rintro e w' ⟨rfl, hb⟩
      exact newMem_nil hb
  · rw [hl]
    refine (store_arg dv mv E t size x w hl).mono ?_
    rintro e w' ⟨rfl, hb⟩
    exact newMem_nil hb
set_option maxHeartbeats 1000000 in
theorem rstore_arg (v : Value) (mv : Value) (E t size n : Int) (w : World) (hl : loadsB size = false) :
    Calls Try.prog 15 #[.agg #[v, mv, .int .u64 E], .int .u64 t, .int .i64 size, .int .u64 n] w fun e w' => e = .returned (.tuple #[.agg #[.slice none 0 0, .slice none 0 0, .int .u64 0], .int .i64 1]) ∧ Below w.heap.size w w' := by
  have hs : size ≠ 1 ∧ size ≠ 2 ∧ size ≠ 4 ∧ size ≠ 8 := by unfold loadsB at hl; simpa using hl
  have a1 : (size != 1) = true := by rw [bne_iff_ne]; exact hs.1
  have a2 : (size != 2) = true := by rw [bne_iff_ne]; exact hs.2.1
  have a3 : (size != 4) = true := by rw [bne_iff_ne]; exact hs.2.2.1
  have a4 : (size != 8) = true := by rw [bne_iff_ne]; exact hs.2.2.2
  clear hl hs
  go_enter Try.func15, Try.ntmps15
  go_wp2_with fail
  exact bodyPost_ret (v := .tuple #[.agg #[.slice none 0 0, .slice none 0 0, .int .u64 0], .int .i64 1]) (by simp [results, Try.results15, go_sem]) rfl ⟨rfl, below2 w _ _⟩
set_option maxRecDepth 100000 in
set_option maxHeartbeats 2000000 in
theorem rstore_1 (dv mv : Value) (E : Int) (D : List UInt8) (M : List Int) (t : Int) (x : Nat) (w : World) (hd : DAt w dv D) (hm : MAt w mv M) (hD : D.length ≤ 140737488351232) (hM : M.length ≤ 17592186043904) (ht0 : 0 ≤ t) (ht1 : t ≤ 18446744073709551615)
    (hx : x < 18446744073709551616) :
    Calls Try.prog 15 #[.agg #[dv, mv, .int .u64 E], .int .u64 t, .int .i64 1, .int .u64 x] w (StoreRes w D M E t 1 x) := by
  obtain ⟨p, cap, rfl⟩ := hd.is
  obtain ⟨q, cap2, rfl⟩ := hm.is
  have HD := Lib.hid hd
  have HM := Lib.hid hm
  clear hd hm
  have HX := Lib.hid (first_box w (.slice p D.length cap) (.slice q M.length cap2) E (.cells #[.slice none 0 0, .slice none 0 0, .int .u64 0] 26))
  have HR := Lib.hid (two_boxes w (.slice none 0 0) (.slice none 0 0) 0 (.cells #[.slice p D.length cap, .slice q M.length cap2, .int .u64 E] 26))
  have HB := Lib.hid (below2 w (.cells #[.slice p D.length cap, .slice q M.length cap2, .int .u64 E] 26) (.cells #[.slice none 0 0, .slice none 0 0, .int .u64 0] 26))
  go_enter Try.func15, Try.ntmps15
  go_wp2_with fail
  refine (rcopy_any _ _ E D M _ (HD.out.below HB.out) (HM.out.below HB.out) hD hM).mono ?_
  rintro e w2 ⟨dv', mv', rfl, hd2, hm2, hb2⟩
  obtain ⟨p', cap', rfl⟩ := owns_shape hd2
  obtain ⟨q', cap2', rfl⟩ := owns_shape hm2
  have HB2 := Lib.hid (below_then HB.out hb2)
  have HR2 := Lib.hid (HR.out.below hb2)
  have hd2' := owns_base hd2 (show w.heap.size + 2 ≤ _ by simp)
  have hm2' := owns_base hm2 (show w.heap.size + 2 ≤ _ by simp)
  have HD2 := Lib.hid (show OwnD w2 (w.heap.size + 2) _ D from hd2')
  have HM2 := Lib.hid (show OwnM w2 (w.heap.size + 2) _ M from hm2')
  clear hb2 hd2 hm2 hd2' hm2' HR
  go_wp2_with fail
  refine (rbytes_1 _ _ hx).mono ?_
  rintro e w3 ⟨rfl, hb3⟩
  have hz3 : RamVar w3 w2.heap.size (.slice p' D.length cap') (.slice q' M.length cap2') E := (show RamVar (w2.alloc (.cells #[.slice p' D.length cap', .slice q' M.length cap2', .int .u64 E] 26)) w2.heap.size _ _ E from heap_alloc_new w2 _).below hb3
  have hd3 := (HD2.out.below (below1 w2 (.cells #[.slice p' D.length cap', .slice q' M.length cap2', .int .u64 E] 26))).below hb3
  have hm3 := (HM2.out.below (below1 w2 (.cells #[.slice p' D.length cap', .slice q' M.length cap2', .int .u64 E] 26))).below hb3
  have hr3 := (HR2.out.below (below1 w2 (.cells #[.slice p' D.length cap', .slice q' M.length cap2', .int .u64 E] 26))).below hb3
  have HB3 := Lib.hid (below_then (below_then HB2.out (below1 w2 (.cells #[.slice p' D.length cap', .slice q' M.length cap2', .int .u64 E] 26))) hb3)
  have HZ3 := Lib.hid hz3
  have HD3 := Lib.hid hd3
  have HM3 := Lib.hid hm3
  have HR3 := Lib.hid hr3
  clear hz3 hd3 hm3 hr3 hb3 HD2 HM2 HR2
  have hbz : (bytesN x 1).size = 1 := bytesN_size _ _ (by omega)
  go_wp2_with fail
  refine (rput_any _ _ _ _ _ _ _ _ _ _ HZ3.out HD3.out HM3.out ht0 ht1 (by rw [hbz]; omega)).mono ?_
  rintro e w4 ⟨rfl, hp⟩
  have hS : ∀ k, PutS (.slice p' D.length cap') (.slice q' M.length cap2') k → w.heap.size + 2 ≤ k := fun k hk => by
    rcases hk with hk | hk
    · exact (owns_lt HD3.out hk.symm).1
    · exact (owns_lt HM3.out hk.symm).1
  have hr4 := HR3.out.touch hp.t (fun hk => by have := hS _ hk; omega)
  have hb4 : Below w.heap.size w w4 := Touch.below HB3.out hp.t (fun k hk => by have := hS _ hk; omega) HB3.out.size
  obtain ⟨z0, z1, z2⟩ := hp.var.cells
  obtain ⟨r0, r1, r2⟩ := hr4.cells
  have r3 := hr4.free 0
  have r4 := hr4.free 1
  have r5 := hr4.free 2
  have hput : putB D.length t (bytesN x 1) = thereB D.length t 1 := by unfold putB; rw [hbz]; simp
  rw [hput]
  rcases Bool.eq_false_or_eq_true (thereB D.length t 1) with hth | hth
  · rw [hth]
    have HFIN := Lib.hid (hr4.store (.slice p' D.length cap') (.slice q' M.length cap2') E)
    have hpost : StoreRes w D M E t 1 x (.returned (.tuple #[.agg #[.slice p' D.length cap', .slice q' M.length cap2', .int .u64 E], .int .i64 0]))
        (((w4.setCell ⟨w.heap.size + 1, 0, none⟩ (.slice p' D.length cap')).setCell ⟨w.heap.size + 1, 1, none⟩ (.slice q' M.length cap2')).setCell ⟨w.heap.size + 1, 2, none⟩ (.int .u64 E)) := by
      have ht : Touch w4 (((w4.setCell ⟨w.heap.size + 1, 0, none⟩ (.slice p' D.length cap')).setCell ⟨w.heap.size + 1, 1, none⟩ (.slice q' M.length cap2')).setCell ⟨w.heap.size + 1, 2, none⟩ (.int .u64 E)) (fun k => k = w.heap.size + 1) :=
        (((Touch.refl w4 (fun k => k = w.heap.size + 1)).setCell (.inl rfl) _).setCell (.inl rfl) _).setCell (.inl rfl) _
      unfold StoreRes stD stM stX stE stB
      rw [hth, show loadsB 1 = true by decide]
      refine ⟨_, _, rfl, ?_, ?_, ((hb4.setCell (Nat.le_succ _) _).setCell (Nat.le_succ _) _).setCell (Nat.le_succ _) _⟩
      · exact owns_base (owns_touch hp.d ht (fun g hg e => by have := (owns_lt hp.d hg).1; omega)) (by omega)
      · exact owns_base (owns_touch hp.m ht (fun g hg e => by have := (owns_lt hp.m hg).1; omega)) (by omega)
    have HPOST := Lib.hid hpost
    clear hr4 hb4 hpost hp HB3 HZ3 HD3 HM3 HR3 hS hth hput hbz
    go_wp2_with fail
    obtain ⟨f0, f1, f2⟩ := HFIN.out.cells
    exact bodyPost_ret (v := .tuple #[.agg #[.slice p' D.length cap', .slice q' M.length cap2', .int .u64 E], .int .i64 0]) (by simp [results, Try.results15, go_sem, f0, f1, f2]) rfl HPOST.out
  · rw [hth]
    have HFIN := Lib.hid (hr4.store (.slice none 0 0) (.slice none 0 0) 0)
    have hpost : StoreRes w D M E t 1 x (.returned (.tuple #[.agg #[.slice none 0 0, .slice none 0 0, .int .u64 0], .int .i64 50]))
        (((w4.setCell ⟨w.heap.size + 1, 0, none⟩ (.slice none 0 0)).setCell ⟨w.heap.size + 1, 1, none⟩ (.slice none 0 0)).setCell ⟨w.heap.size + 1, 2, none⟩ (.int .u64 0)) := by
      unfold StoreRes stD stM stX stE stB
      rw [hth, show loadsB 1 = true by decide]
      exact newMem_nil (((hb4.setCell (Nat.le_succ _) _).setCell (Nat.le_succ _) _).setCell (Nat.le_succ _) _)
    have HPOST := Lib.hid hpost
    clear hr4 hb4 hpost hp HB3 HZ3 HD3 HM3 HR3 hS hth hput hbz
    go_wp2_with fail
    obtain ⟨f0, f1, f2⟩ := HFIN.out.cells
    exact bodyPost_ret (v := .tuple #[.agg #[.slice none 0 0, .slice none 0 0, .int .u64 0], .int .i64 50]) (by simp [results, Try.results15, go_sem, f0, f1, f2]) rfl HPOST.out
set_option maxRecDepth 100000 in
set_option maxHeartbeats 2000000 in
theorem rstore_2 (dv mv : Value) (E : Int) (D : List UInt8) (M : List Int) (t : Int) (x : Nat) (w : World) (hd : DAt w dv D) (hm : MAt w mv M) (hD : D.length ≤ 140737488351232) (hM : M.length ≤ 17592186043904) (ht0 : 0 ≤ t) (ht1 : t ≤ 18446744073709551615)
    (hx : x < 18446744073709551616) :
    Calls Try.prog 15 #[.agg #[dv, mv, .int .u64 E], .int .u64 t, .int .i64 2, .int .u64 x] w (StoreRes w D M E t 2 x) := by
  obtain ⟨p, cap, rfl⟩ := hd.is
  obtain ⟨q, cap2, rfl⟩ := hm.is
  have HD := Lib.hid hd
  have HM := Lib.hid hm
  clear hd hm
  have HX := Lib.hid (first_box w (.slice p D.length cap) (.slice q M.length cap2) E (.cells #[.slice none 0 0, .slice none 0 0, .int .u64 0] 26))
  have HR := Lib.hid (two_boxes w (.slice none 0 0) (.slice none 0 0) 0 (.cells #[.slice p D.length cap, .slice q M.length cap2, .int .u64 E] 26))
  have HB := Lib.hid (below2 w (.cells #[.slice p D.length cap, .slice q M.length cap2, .int .u64 E] 26) (.cells #[.slice none 0 0, .slice none 0 0, .int .u64 0] 26))
  go_enter Try.func15, Try.ntmps15
  go_wp2_with fail
  refine (rcopy_any _ _ E D M _ (HD.out.below HB.out) (HM.out.below HB.out) hD hM).mono ?_
  rintro e w2 ⟨dv', mv', rfl, hd2, hm2, hb2⟩
  obtain ⟨p', cap', rfl⟩ := owns_shape hd2
  obtain ⟨q', cap2', rfl⟩ := owns_shape hm2
  have HB2 := Lib.hid (below_then HB.out hb2)
  have HR2 := Lib.hid (HR.out.below hb2)
  have hd2' := owns_base hd2 (show w.heap.size + 2 ≤ _ by simp)
  have hm2' := owns_base hm2 (show w.heap.size + 2 ≤ _ by simp)
  have HD2 := Lib.hid (show OwnD w2 (w.heap.size + 2) _ D from hd2')
  have HM2 := Lib.hid (show OwnM w2 (w.heap.size + 2) _ M from hm2')
  clear hb2 hd2 hm2 hd2' hm2' HR
  go_wp2_with fail
  refine (rbytes_2 _ _ hx).mono ?_
  rintro e w3 ⟨rfl, hb3⟩
  have hz3 : RamVar w3 w2.heap.size (.slice p' D.length cap') (.slice q' M.length cap2') E := (show RamVar (w2.alloc (.cells #[.slice p' D.length cap', .slice q' M.length cap2', .int .u64 E] 26)) w2.heap.size _ _ E from heap_alloc_new w2 _).below hb3
  have hd3 := (HD2.out.below (below1 w2 (.cells #[.slice p' D.length cap', .slice q' M.length cap2', .int .u64 E] 26))).below hb3
  have hm3 := (HM2.out.below (below1 w2 (.cells #[.slice p' D.length cap', .slice q' M.length cap2', .int .u64 E] 26))).below hb3
  have hr3 := (HR2.out.below (below1 w2 (.cells #[.slice p' D.length cap', .slice q' M.length cap2', .int .u64 E] 26))).below hb3
  have HB3 := Lib.hid (below_then (below_then HB2.out (below1 w2 (.cells #[.slice p' D.length cap', .slice q' M.length cap2', .int .u64 E] 26))) hb3)
  have HZ3 := Lib.hid hz3
  have HD3 := Lib.hid hd3
  have HM3 := Lib.hid hm3
  have HR3 := Lib.hid hr3
  clear hz3 hd3 hm3 hr3 hb3 HD2 HM2 HR2
  have hbz : (bytesN x 2).size = 2 := bytesN_size _ _ (by omega)
  go_wp2_with fail
  refine (rput_any _ _ _ _ _ _ _ _ _ _ HZ3.out HD3.out HM3.out ht0 ht1 (by rw [hbz]; omega)).mono ?_
  rintro e w4 ⟨rfl, hp⟩
  have hS : ∀ k, PutS (.slice p' D.length cap') (.slice q' M.length cap2') k → w.heap.size + 2 ≤ k := fun k hk => by
    rcases hk with hk | hk
    · exact (owns_lt HD3.out hk.symm).1
    · exact (owns_lt HM3.out hk.symm).1
  have hr4 := HR3.out.touch hp.t (fun hk => by have := hS _ hk; omega)
  have hb4 : Below w.heap.size w w4 := Touch.below HB3.out hp.t (fun k hk => by have := hS _ hk; omega) HB3.out.size
  obtain ⟨z0, z1, z2⟩ := hp.var.cells
  obtain ⟨r0, r1, r2⟩ := hr4.cells
  have r3 := hr4.free 0
  have r4 := hr4.free 1
  have r5 := hr4.free 2
  have hput : putB D.length t (bytesN x 2) = thereB D.length t 2 := by unfold putB; rw [hbz]; simp
  rw [hput]
  rcases Bool.eq_false_or_eq_true (thereB D.length t 2) with hth | hth
  · rw [hth]
    have HFIN := Lib.hid (hr4.store (.slice p' D.length cap') (.slice q' M.length cap2') E)
    have hpost : StoreRes w D M E t 2 x (.returned (.tuple #[.agg #[.slice p' D.length cap', .slice q' M.length cap2', .int .u64 E], .int .i64 0]))
        (((w4.setCell ⟨w.heap.size + 1, 0, none⟩ (.slice p' D.length cap')).setCell ⟨w.heap.size + 1, 1, none⟩ (.slice q' M.length cap2')).setCell ⟨w.heap.size + 1, 2, none⟩ (.int .u64 E)) := by
      have ht : Touch w4 (((w4.setCell ⟨w.heap.size + 1, 0, none⟩ (.slice p' D.length cap')).setCell ⟨w.heap.size + 1, 1, none⟩ (.slice q' M.length cap2')).setCell ⟨w.heap.size + 1, 2, none⟩ (.int .u64 E)) (fun k => k = w.heap.size + 1) :=
        (((Touch.refl w4 (fun k => k = w.heap.size + 1)).setCell (.inl rfl) _).setCell (.inl rfl) _).setCell (.inl rfl) _
      unfold StoreRes stD stM stX stE stB
      rw [hth, show loadsB 2 = true by decide]
      refine ⟨_, _, rfl, ?_, ?_, ((hb4.setCell (Nat.le_succ _) _).setCell (Nat.le_succ _) _).setCell (Nat.le_succ _) _⟩
      · exact owns_base (owns_touch hp.d ht (fun g hg e => by have := (owns_lt hp.d hg).1; omega)) (by omega)
      · exact owns_base (owns_touch hp.m ht (fun g hg e => by have := (owns_lt hp.m hg).1; omega)) (by omega)
    have HPOST := Lib.hid hpost
    clear hr4 hb4 hpost hp HB3 HZ3 HD3 HM3 HR3 hS hth hput hbz
    go_wp2_with fail
    obtain ⟨f0, f1, f2⟩ := HFIN.out.cells
    exact bodyPost_ret (v := .tuple #[.agg #[.slice p' D.length cap', .slice q' M.length cap2', .int .u64 E], .int .i64 0]) (by simp [results, Try.results15, go_sem, f0, f1, f2]) rfl HPOST.out
  · rw [hth]
    have HFIN := Lib.hid (hr4.store (.slice none 0 0) (.slice none 0 0) 0)
    have hpost : StoreRes w D M E t 2 x (.returned (.tuple #[.agg #[.slice none 0 0, .slice none 0 0, .int .u64 0], .int .i64 50]))
        (((w4.setCell ⟨w.heap.size + 1, 0, none⟩ (.slice none 0 0)).setCell ⟨w.heap.size + 1, 1, none⟩ (.slice none 0 0)).setCell ⟨w.heap.size + 1, 2, none⟩ (.int .u64 0)) := by
      unfold StoreRes stD stM stX stE stB
      rw [hth, show loadsB 2 = true by decide]
      exact newMem_nil (((hb4.setCell (Nat.le_succ _) _).setCell (Nat.le_succ _) _).setCell (Nat.le_succ _) _)
    have HPOST := Lib.hid hpost
    clear hr4 hb4 hpost hp HB3 HZ3 HD3 HM3 HR3 hS hth hput hbz
    go_wp2_with fail
    obtain ⟨f0, f1, f2⟩ := HFIN.out.cells
    exact bodyPost_ret (v := .tuple #[.agg #[.slice none 0 0, .slice none 0 0, .int .u64 0], .int .i64 50]) (by simp [results, Try.results15, go_sem, f0, f1, f2]) rfl HPOST.out
set_option maxRecDepth 100000 in
set_option maxHeartbeats 2000000 in
theorem rstore_4 (dv mv : Value) (E : Int) (D : List UInt8) (M : List Int) (t : Int) (x : Nat) (w : World) (hd : DAt w dv D) (hm : MAt w mv M) (hD : D.length ≤ 140737488351232) (hM : M.length ≤ 17592186043904) (ht0 : 0 ≤ t) (ht1 : t ≤ 18446744073709551615)
    (hx : x < 18446744073709551616) :
    Calls Try.prog 15 #[.agg #[dv, mv, .int .u64 E], .int .u64 t, .int .i64 4, .int .u64 x] w (StoreRes w D M E t 4 x) := by
  obtain ⟨p, cap, rfl⟩ := hd.is
  obtain ⟨q, cap2, rfl⟩ := hm.is
  have HD := Lib.hid hd
  have HM := Lib.hid hm
  clear hd hm
  have HX := Lib.hid (first_box w (.slice p D.length cap) (.slice q M.length cap2) E (.cells #[.slice none 0 0, .slice none 0 0, .int .u64 0] 26))
  have HR := Lib.hid (two_boxes w (.slice none 0 0) (.slice none 0 0) 0 (.cells #[.slice p D.length cap, .slice q M.length cap2, .int .u64 E] 26))
  have HB := Lib.hid (below2 w (.cells #[.slice p D.length cap, .slice q M.length cap2, .int .u64 E] 26) (.cells #[.slice none 0 0, .slice none 0 0, .int .u64 0] 26))
  go_enter Try.func15, Try.ntmps15
  go_wp2_with fail
  refine (rcopy_any _ _ E D M _ (HD.out.below HB.out) (HM.out.below HB.out) hD hM).mono ?_
  rintro e w2 ⟨dv', mv', rfl, hd2, hm2, hb2⟩
  obtain ⟨p', cap', rfl⟩ := owns_shape hd2
  obtain ⟨q', cap2', rfl⟩ := owns_shape hm2
  have HB2 := Lib.hid (below_then HB.out hb2)
  have HR2 := Lib.hid (HR.out.below hb2)
  have hd2' := owns_base hd2 (show w.heap.size + 2 ≤ _ by simp)
  have hm2' := owns_base hm2 (show w.heap.size + 2 ≤ _ by simp)
  have HD2 := Lib.hid (show OwnD w2 (w.heap.size + 2) _ D from hd2')
  have HM2 := Lib.hid (show OwnM w2 (w.heap.size + 2) _ M from hm2')
  clear hb2 hd2 hm2 hd2' hm2' HR
  go_wp2_with fail
  refine (rbytes_4 _ _ hx).mono ?_
  rintro e w3 ⟨rfl, hb3⟩
  have hz3 : RamVar w3 w2.heap.size (.slice p' D.length cap') (.slice q' M.length cap2') E := (show RamVar (w2.alloc (.cells #[.slice p' D.length cap', .slice q' M.length cap2', .int .u64 E] 26)) w2.heap.size _ _ E from heap_alloc_new w2 _).below hb3
  have hd3 := (HD2.out.below (below1 w2 (.cells #[.slice p' D.length cap', .slice q' M.length cap2', .int .u64 E] 26))).below hb3
  have hm3 := (HM2.out.below (below1 w2 (.cells #[.slice p' D.length cap', .slice q' M.length cap2', .int .u64 E] 26))).below hb3
  have hr3 := (HR2.out.below (below1 w2 (.cells #[.slice p' D.length cap', .slice q' M.length cap2', .int .u64 E] 26))).below hb3
  have HB3 := Lib.hid (below_then (below_then HB2.out (below1 w2 (.cells #[.slice p' D.length cap', .slice q' M.length cap2', .int .u64 E] 26))) hb3)
  have HZ3 := Lib.hid hz3
  have HD3 := Lib.hid hd3
  have HM3 := Lib.hid hm3
  have HR3 := Lib.hid hr3
  clear hz3 hd3 hm3 hr3 hb3 HD2 HM2 HR2
  have hbz : (bytesN x 4).size = 4 := bytesN_size _ _ (by omega)
  go_wp2_with fail
  refine (rput_any _ _ _ _ _ _ _ _ _ _ HZ3.out HD3.out HM3.out ht0 ht1 (by rw [hbz]; omega)).mono ?_
  rintro e w4 ⟨rfl, hp⟩
  have hS : ∀ k, PutS (.slice p' D.length cap') (.slice q' M.length cap2') k → w.heap.size + 2 ≤ k := fun k hk => by
    rcases hk with hk | hk
    · exact (owns_lt HD3.out hk.symm).1
    · exact (owns_lt HM3.out hk.symm).1
  have hr4 := HR3.out.touch hp.t (fun hk => by have := hS _ hk; omega)
  have hb4 : Below w.heap.size w w4 := Touch.below HB3.out hp.t (fun k hk => by have := hS _ hk; omega) HB3.out.size
  obtain ⟨z0, z1, z2⟩ := hp.var.cells
  obtain ⟨r0, r1, r2⟩ := hr4.cells
  have r3 := hr4.free 0
  have r4 := hr4.free 1
  have r5 := hr4.free 2
  have hput : putB D.length t (bytesN x 4) = thereB D.length t 4 := by unfold putB; rw [hbz]; simp
  rw [hput]
  rcases Bool.eq_false_or_eq_true (thereB D.length t 4) with hth | hth
  · rw [hth]
    have HFIN := Lib.hid (hr4.store (.slice p' D.length cap') (.slice q' M.length cap2') E)
    have hpost : StoreRes w D M E t 4 x (.returned (.tuple #[.agg #[.slice p' D.length cap', .slice q' M.length cap2', .int .u64 E], .int .i64 0]))
        (((w4.setCell ⟨w.heap.size + 1, 0, none⟩ (.slice p' D.length cap')).setCell ⟨w.heap.size + 1, 1, none⟩ (.slice q' M.length cap2')).setCell ⟨w.heap.size + 1, 2, none⟩ (.int .u64 E)) := by
      have ht : Touch w4 (((w4.setCell ⟨w.heap.size + 1, 0, none⟩ (.slice p' D.length cap')).setCell ⟨w.heap.size + 1, 1, none⟩ (.slice q' M.length cap2')).setCell ⟨w.heap.size + 1, 2, none⟩ (.int .u64 E)) (fun k => k = w.heap.size + 1) :=
        (((Touch.refl w4 (fun k => k = w.heap.size + 1)).setCell (.inl rfl) _).setCell (.inl rfl) _).setCell (.inl rfl) _
      unfold StoreRes stD stM stX stE stB
      rw [hth, show loadsB 4 = true by decide]
      refine ⟨_, _, rfl, ?_, ?_, ((hb4.setCell (Nat.le_succ _) _).setCell (Nat.le_succ _) _).setCell (Nat.le_succ _) _⟩
      · exact owns_base (owns_touch hp.d ht (fun g hg e => by have := (owns_lt hp.d hg).1; omega)) (by omega)
      · exact owns_base (owns_touch hp.m ht (fun g hg e => by have := (owns_lt hp.m hg).1; omega)) (by omega)
    have HPOST := Lib.hid hpost
    clear hr4 hb4 hpost hp HB3 HZ3 HD3 HM3 HR3 hS hth hput hbz
    go_wp2_with fail
    obtain ⟨f0, f1, f2⟩ := HFIN.out.cells
    exact bodyPost_ret (v := .tuple #[.agg #[.slice p' D.length cap', .slice q' M.length cap2', .int .u64 E], .int .i64 0]) (by simp [results, Try.results15, go_sem, f0, f1, f2]) rfl HPOST.out
  · rw [hth]
    have HFIN := Lib.hid (hr4.store (.slice none 0 0) (.slice none 0 0) 0)
    have hpost : StoreRes w D M E t 4 x (.returned (.tuple #[.agg #[.slice none 0 0, .slice none 0 0, .int .u64 0], .int .i64 50]))
        (((w4.setCell ⟨w.heap.size + 1, 0, none⟩ (.slice none 0 0)).setCell ⟨w.heap.size + 1, 1, none⟩ (.slice none 0 0)).setCell ⟨w.heap.size + 1, 2, none⟩ (.int .u64 0)) := by
      unfold StoreRes stD stM stX stE stB
      rw [hth, show loadsB 4 = true by decide]
      exact newMem_nil (((hb4.setCell (Nat.le_succ _) _).setCell (Nat.le_succ _) _).setCell (Nat.le_succ _) _)
    have HPOST := Lib.hid hpost
    clear hr4 hb4 hpost hp HB3 HZ3 HD3 HM3 HR3 hS hth hput hbz
    go_wp2_with fail
    obtain ⟨f0, f1, f2⟩ := HFIN.out.cells
    exact bodyPost_ret (v := .tuple #[.agg #[.slice none 0 0, .slice none 0 0, .int .u64 0], .int .i64 50]) (by simp [results, Try.results15, go_sem, f0, f1, f2]) rfl HPOST.out
set_option maxRecDepth 100000 in
set_option maxHeartbeats 2000000 in
theorem rstore_8 (dv mv : Value) (E : Int) (D : List UInt8) (M : List Int) (t : Int) (x : Nat) (w : World) (hd : DAt w dv D) (hm : MAt w mv M) (hD : D.length ≤ 140737488351232) (hM : M.length ≤ 17592186043904) (ht0 : 0 ≤ t) (ht1 : t ≤ 18446744073709551615)
    (hx : x < 18446744073709551616) :
    Calls Try.prog 15 #[.agg #[dv, mv, .int .u64 E], .int .u64 t, .int .i64 8, .int .u64 x] w (StoreRes w D M E t 8 x) := by
  obtain ⟨p, cap, rfl⟩ := hd.is
  obtain ⟨q, cap2, rfl⟩ := hm.is
  have HD := Lib.hid hd
  have HM := Lib.hid hm
  clear hd hm
  have HX := Lib.hid (first_box w (.slice p D.length cap) (.slice q M.length cap2) E (.cells #[.slice none 0 0, .slice none 0 0, .int .u64 0] 26))
  have HR := Lib.hid (two_boxes w (.slice none 0 0) (.slice none 0 0) 0 (.cells #[.slice p D.length cap, .slice q M.length cap2, .int .u64 E] 26))
  have HB := Lib.hid (below2 w (.cells #[.slice p D.length cap, .slice q M.length cap2, .int .u64 E] 26) (.cells #[.slice none 0 0, .slice none 0 0, .int .u64 0] 26))
  go_enter Try.func15, Try.ntmps15
  go_wp2_with fail
  refine (rcopy_any _ _ E D M _ (HD.out.below HB.out) (HM.out.below HB.out) hD hM).mono ?_
  rintro e w2 ⟨dv', mv', rfl, hd2, hm2, hb2⟩
  obtain ⟨p', cap', rfl⟩ := owns_shape hd2
  obtain ⟨q', cap2', rfl⟩ := owns_shape hm2
  have HB2 := Lib.hid (below_then HB.out hb2)
  have HR2 := Lib.hid (HR.out.below hb2)
  have hd2' := owns_base hd2 (show w.heap.size + 2 ≤ _ by simp)
  have hm2' := owns_base hm2 (show w.heap.size + 2 ≤ _ by simp)
  have HD2 := Lib.hid (show OwnD w2 (w.heap.size + 2) _ D from hd2')
  have HM2 := Lib.hid (show OwnM w2 (w.heap.size + 2) _ M from hm2')
  clear hb2 hd2 hm2 hd2' hm2' HR
  go_wp2_with fail
  refine (rbytes_8 _ _ hx).mono ?_
  rintro e w3 ⟨rfl, hb3⟩
  have hz3 : RamVar w3 w2.heap.size (.slice p' D.length cap') (.slice q' M.length cap2') E := (show RamVar (w2.alloc (.cells #[.slice p' D.length cap', .slice q' M.length cap2', .int .u64 E] 26)) w2.heap.size _ _ E from heap_alloc_new w2 _).below hb3
  have hd3 := (HD2.out.below (below1 w2 (.cells #[.slice p' D.length cap', .slice q' M.length cap2', .int .u64 E] 26))).below hb3
  have hm3 := (HM2.out.below (below1 w2 (.cells #[.slice p' D.length cap', .slice q' M.length cap2', .int .u64 E] 26))).below hb3
  have hr3 := (HR2.out.below (below1 w2 (.cells #[.slice p' D.length cap', .slice q' M.length cap2', .int .u64 E] 26))).below hb3
  have HB3 := Lib.hid (below_then (below_then HB2.out (below1 w2 (.cells #[.slice p' D.length cap', .slice q' M.length cap2', .int .u64 E] 26))) hb3)
  have HZ3 := Lib.hid hz3
  have HD3 := Lib.hid hd3
  have HM3 := Lib.hid hm3
  have HR3 := Lib.hid hr3
  clear hz3 hd3 hm3 hr3 hb3 HD2 HM2 HR2
  have hbz : (bytesN x 8).size = 8 := bytesN_size _ _ (by omega)
  go_wp2_with fail
  refine (rput_any _ _ _ _ _ _ _ _ _ _ HZ3.out HD3.out HM3.out ht0 ht1 (by rw [hbz]; omega)).mono ?_
  rintro e w4 ⟨rfl, hp⟩
  have hS : ∀ k, PutS (.slice p' D.length cap') (.slice q' M.length cap2') k → w.heap.size + 2 ≤ k := fun k hk => by
    rcases hk with hk | hk
    · exact (owns_lt HD3.out hk.symm).1
    · exact (owns_lt HM3.out hk.symm).1
  have hr4 := HR3.out.touch hp.t (fun hk => by have := hS _ hk; omega)
  have hb4 : Below w.heap.size w w4 := Touch.below HB3.out hp.t (fun k hk => by have := hS _ hk; omega) HB3.out.size
  obtain ⟨z0, z1, z2⟩ := hp.var.cells
  obtain ⟨r0, r1, r2⟩ := hr4.cells
  have r3 := hr4.free 0
  have r4 := hr4.free 1
  have r5 := hr4.free 2
  have hput : putB D.length t (bytesN x 8) = thereB D.length t 8 := by unfold putB; rw [hbz]; simp
  rw [hput]
  rcases Bool.eq_false_or_eq_true (thereB D.length t 8) with hth | hth
  · rw [hth]
    have HFIN := Lib.hid (hr4.store (.slice p' D.length cap') (.slice q' M.length cap2') E)
    have hpost : StoreRes w D M E t 8 x (.returned (.tuple #[.agg #[.slice p' D.length cap', .slice q' M.length cap2', .int .u64 E], .int .i64 0]))
        (((w4.setCell ⟨w.heap.size + 1, 0, none⟩ (.slice p' D.length cap')).setCell ⟨w.heap.size + 1, 1, none⟩ (.slice q' M.length cap2')).setCell ⟨w.heap.size + 1, 2, none⟩ (.int .u64 E)) := by
      have ht : Touch w4 (((w4.setCell ⟨w.heap.size + 1, 0, none⟩ (.slice p' D.length cap')).setCell ⟨w.heap.size + 1, 1, none⟩ (.slice q' M.length cap2')).setCell ⟨w.heap.size + 1, 2, none⟩ (.int .u64 E)) (fun k => k = w.heap.size + 1) :=
        (((Touch.refl w4 (fun k => k = w.heap.size + 1)).setCell (.inl rfl) _).setCell (.inl rfl) _).setCell (.inl rfl) _
      unfold StoreRes stD stM stX stE stB
      rw [hth, show loadsB 8 = true by decide]
      refine ⟨_, _, rfl, ?_, ?_, ((hb4.setCell (Nat.le_succ _) _).setCell (Nat.le_succ _) _).setCell (Nat.le_succ _) _⟩
      · exact owns_base (owns_touch hp.d ht (fun g hg e => by have := (owns_lt hp.d hg).1; omega)) (by omega)
      · exact owns_base (owns_touch hp.m ht (fun g hg e => by have := (owns_lt hp.m hg).1; omega)) (by omega)
    have HPOST := Lib.hid hpost
    clear hr4 hb4 hpost hp HB3 HZ3 HD3 HM3 HR3 hS hth hput hbz
    go_wp2_with fail
    obtain ⟨f0, f1, f2⟩ := HFIN.out.cells
    exact bodyPost_ret (v := .tuple #[.agg #[.slice p' D.length cap', .slice q' M.length cap2', .int .u64 E], .int .i64 0]) (by simp [results, Try.results15, go_sem, f0, f1, f2]) rfl HPOST.out
  · rw [hth]
    have HFIN := Lib.hid (hr4.store (.slice none 0 0) (.slice none 0 0) 0)
    have hpost : StoreRes w D M E t 8 x (.returned (.tuple #[.agg #[.slice none 0 0, .slice none 0 0, .int .u64 0], .int .i64 50]))
        (((w4.setCell ⟨w.heap.size + 1, 0, none⟩ (.slice none 0 0)).setCell ⟨w.heap.size + 1, 1, none⟩ (.slice none 0 0)).setCell ⟨w.heap.size + 1, 2, none⟩ (.int .u64 0)) := by
      unfold StoreRes stD stM stX stE stB
      rw [hth, show loadsB 8 = true by decide]
      exact newMem_nil (((hb4.setCell (Nat.le_succ _) _).setCell (Nat.le_succ _) _).setCell (Nat.le_succ _) _)
    have HPOST := Lib.hid hpost
    clear hr4 hb4 hpost hp HB3 HZ3 HD3 HM3 HR3 hS hth hput hbz
    go_wp2_with fail
    obtain ⟨f0, f1, f2⟩ := HFIN.out.cells
    exact bodyPost_ret (v := .tuple #[.agg #[.slice none 0 0, .slice none 0 0, .int .u64 0], .int .i64 50]) (by simp [results, Try.results15, go_sem, f0, f1, f2]) rfl HPOST.out
theorem rstore_all (dv mv : Value) (E : Int) (D : List UInt8) (M : List Int) (t size : Int) (x : Nat) (w : World) (hd : DAt w dv D) (hm : MAt w mv M) (hD : D.length ≤ 140737488351232) (hM : M.length ≤ 17592186043904) (ht0 : 0 ≤ t) (ht1 : t ≤ 18446744073709551615)
    (hx : x < 18446744073709551616) :
    Calls Try.prog 15 #[.agg #[dv, mv, .int .u64 E], .int .u64 t, .int .i64 size, .int .u64 x] w (StoreRes w D M E t size x) := by
  rcases Bool.eq_false_or_eq_true (loadsB size) with hl | hl
  · have hs : size = 1 ∨ size = 2 ∨ size = 4 ∨ size = 8 := by unfold loadsB at hl; simpa using hl
    rcases hs with rfl | rfl | rfl | rfl
    · exact rstore_1 dv mv E D M t x w hd hm hD hM ht0 ht1 hx
    · exact rstore_2 dv mv E D M t x w hd hm hD hM ht0 ht1 hx
    · exact rstore_4 dv mv E D M t x w hd hm hD hM ht0 ht1 hx
    · exact rstore_8 dv mv E D M t x w hd hm hD hM ht0 ht1 hx
  · refine (rstore_arg dv mv E t size x w hl).mono ?_
    rintro e w' ⟨rfl, hb⟩
    unfold StoreRes stD stM stX stE stB
    rw [hl]
    exact newMem_nil hb
end Go.Proofs.Ytocphogddjcblaa
