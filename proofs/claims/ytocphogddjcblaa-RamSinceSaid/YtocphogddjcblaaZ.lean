/- RamTells: the walk. -/
import Derived.Test.YtocphogddjcblaaY
namespace Go.Proofs.Ytocphogddjcblaa
open Go.RowKit Go.Deep Go.Joins
/-- A world in which all that was there is as it was. -/
structure Near (w : World) where
  wx : World
  near : Below w.heap.size w wx
theorem wp_region_near {P : Program} {id : Nat} {Q : Exit → Act → World → Prop} {a : Act} {w : World} {l : List Oper} (hm : P.follows .mixedOrders = true) (hB : Region.lexB .any l.toArray = true)
    (h : wpQuiet P l.toArray (fun w' => ∃ p : Near w, w' = p.wx) (fun a' => ∀ w', (∃ p : Near w, w' = p.wx) → Q .normal a' w') l a) : (Code.region id l.toArray true).wp P Q a w :=
  wp_region_quiet (C := fun w' => ∃ p : Near w, w' = p.wx) hm hB ⟨⟨w.drew, (Below.refl _ _).drew⟩, rfl⟩ (by simpa using h)
theorem near_call {P : Program} {f : FuncId} {args : Array Value} {w : World} {p : Near w} {v : Value} (h : Calls P f args p.wx fun e w' => e = .returned v ∧ Below p.wx.heap.size p.wx w') :
    Calls P f args p.wx fun e w'' => e = .returned v ∧ ∃ p : Near w, w'' = p.wx :=
  h.mono fun _ _ ⟨he, hb⟩ => ⟨he, ⟨_, below_then p.near hb⟩, rfl⟩
def Base (w wx : World) (dv mv : Value) (E t size x : Int) (s : ByteArray) : Prop := RamVar wx w.heap.size dv mv E ∧ SpotVar wx (w.heap.size + 1) t size x s ∧ Below w.heap.size w wx
theorem Base.below {w wx wy : World} {dv mv : Value} {E t size x : Int} {s : ByteArray} (h : Base w wx dv mv E t size x s) (hb : Below wx.heap.size wx wy) : Base w wy dv mv E t size x s :=
  ⟨h.1.below hb, h.2.1.below hb, below_then h.2.2 hb⟩
theorem Base.touch {w wx wy : World} {dv mv : Value} {E t size x : Int} {s : ByteArray} {S : Nat → Prop} (h : Base w wx dv mv E t size x s) (ht : Touch wx wy S) (h1 : ¬ S w.heap.size) (h2 : ¬ S (w.heap.size + 1)) (h3 : ∀ k, S k → w.heap.size ≤ k) : Base w wy dv mv E t size x s :=
  ⟨h.1.touch ht h1, (ht.block _ h.2.1.lt h2).trans h.2.1, Touch.below h.2.2 ht h3 h.2.2.size⟩
theorem base_new (w : World) (dv mv : Value) (E t size x : Int) (s : ByteArray) : Base w ((w.alloc (.cells #[dv, mv, .int .u64 E] 26)).alloc (.cells #[.int .u64 t, .int .i64 size, .int .u64 x, .string s] 28)) dv mv E t size x s :=
  ⟨first_box w _ _ _ _, spot_new2 w _ _ _ _ _, below2 w _ _⟩
theorem Base.cells {w wx : World} {dv mv : Value} {E t size x : Int} {s : ByteArray} (h : Base w wx dv mv E t size x s) :
    wx.cell? ⟨w.heap.size, 0, none⟩ = some dv ∧ wx.cell? ⟨w.heap.size, 1, none⟩ = some mv ∧ wx.cell? ⟨w.heap.size, 2, none⟩ = some (.int .u64 E) ∧
    wx.cell? ⟨w.heap.size + 1, 0, none⟩ = some (.int .u64 t) ∧ wx.cell? ⟨w.heap.size + 1, 1, none⟩ = some (.int .i64 size) ∧ wx.cell? ⟨w.heap.size + 1, 2, none⟩ = some (.int .u64 x) ∧ wx.cell? ⟨w.heap.size + 1, 3, none⟩ = some (.string s) := by
  obtain ⟨a, b, c⟩ := h.1.cells
  obtain ⟨d, e, f, g⟩ := h.2.1.cells
  exact ⟨a, b, c, d, e, f, g⟩
/-- A copy, above w. -/
def Copied (w : World) (D : List UInt8) (M : List Int) (E : Int) (e : Ending) (u : World) : Prop :=
  ∃ (pv : Option Addr) (cv : Nat) (qv : Option Addr) (cv2 : Nat), e = .returned (.agg #[.slice pv D.length cv, .slice qv M.length cv2, .int .u64 E]) ∧ DAt u (.slice pv D.length cv) D ∧ MAt u (.slice qv M.length cv2) M ∧ Below w.heap.size w u
def Want96 (w wx : World) (r : Value) : Prop := r = .bool false ∧ Below w.heap.size w wx
def Want24 (w wx : World) (dv mv : Value) (E t size x : Int) (s : ByteArray) (r : Value) : Prop := r = .bool false ∧ Base w wx dv mv E t size x s
set_option maxRecDepth 100000 in
set_option maxHeartbeats 4000000 in
theorem tells_any (dv mv : Value) (E : Int) (D : List UInt8) (M : List Int) (t size : Int) (x : Nat) (s : ByteArray) (n : Int) (w : World) (hd : DAt w dv D) (hm : MAt w mv M) (hD : D.length ≤ 140737488351232) (hM : M.length ≤ 17592186043904) (ht0 : 0 ≤ t) (ht1 : t ≤ 18446744073709551615)
    (hx : x < 18446744073709551616) (hs0 : -9223372036854775808 ≤ size) (hs1 : size ≤ 9223372036854775807) :
    Calls Try.prog 3 #[.agg #[dv, mv, .int .u64 E], .agg #[.int .u64 t, .int .i64 size, .int .u64 x, .string s], .int .i64 n] w fun e w' => e = .returned (.bool true) ∧ Below w.heap.size w w' := by
  obtain ⟨p, cap, rfl⟩ := hd.is
  obtain ⟨q, cap2, rfl⟩ := hm.is
  have HD := Lib.hid hd
  have HM := Lib.hid hm
  have HT := Lib.hid (And.intro ht0 ht1)
  have HX := Lib.hid hx
  have HSZ := Lib.hid (And.intro hs0 hs1)
  clear hd hm ht0 ht1 hx hs0 hs1
  have HBN := Lib.hid (base_new w (.slice p D.length cap) (.slice q M.length cap2) E t size x s)
  go_enter Try.func3, Try.ntmps3
  go_upto_region 1 with fail
  go_cut [24] (fun s24 wx => Want24 w wx (.slice p D.length cap) (.slice q M.length cap2) E t size x s s24)
  case first =>
    generalize hw0 : (w.alloc (Obj.cells #[Value.slice p D.length cap, Value.slice q M.length cap2, Value.int IntKind.u64 E] 26)).alloc (Obj.cells #[Value.int IntKind.u64 t, Value.int IntKind.i64 size, Value.int IntKind.u64 x, Value.string s] 28) = w0 at *
    clear hw0
    obtain ⟨a0, a1, a2, a3, a4, a5, a6⟩ := HBN.out.cells
    have y0 : ∀ p' : Near w0, p'.wx.cell? ⟨w.heap.size, 0, none⟩ = some (.slice p D.length cap) := fun p' => below_cell p'.near a0
    have y1 : ∀ p' : Near w0, p'.wx.cell? ⟨w.heap.size, 1, none⟩ = some (.slice q M.length cap2) := fun p' => below_cell p'.near a1
    have y2 : ∀ p' : Near w0, p'.wx.cell? ⟨w.heap.size, 2, none⟩ = some (.int .u64 E) := fun p' => below_cell p'.near a2
    have h9 : ∀ p' : Near w0, Calls Try.prog 9 #[.agg #[.slice p D.length cap, .slice q M.length cap2, .int .u64 E]] p'.wx fun e w' => e = .returned (.int .i64 (chkV D.length M E)) ∧ Below p'.wx.heap.size p'.wx w' := fun p' =>
      check_any p D.length cap (.slice q M.length cap2) E M p'.wx (HM.out.below (below_then HBN.out.2.2 p'.near))
    have h10 : ∀ p' : Near w0, Calls Try.prog 10 #[.agg #[.slice p D.length cap, .slice q M.length cap2, .int .u64 E]] p'.wx fun e w' => e = .returned (.int .i64 (chkV D.length M E)) ∧ Below p'.wx.heap.size p'.wx w' := fun p' =>
      rcheck_any p D.length cap (.slice q M.length cap2) E M p'.wx (HM.out.below (below_then HBN.out.2.2 p'.near))
    have H9 := Lib.hid h9
    have H10 := Lib.hid h10
    clear h9 h10 a0 a1 a2 a3 a4 a5 a6
    generalize chkV D.length M E = V at *
    have hne : Nonempty (Near w0) := ⟨⟨w0, Below.refl _ _⟩⟩
    refine wp_region_near (by kernel_rfl) (by kernel_rfl) ?_
    repeat (go_big_quiet_step ((first | (go_at_call 8; exact near_call (awake_any _)) | (go_at_call 9; exact near_call (H9.out _)) | (go_at_call 10; exact near_call (H10.out _)))))
    refine wpQuiet_nil ?_
    rintro _ ⟨pn, rfl⟩
    go_wp2_with fail
    go_meet
    exact ⟨rfl, HBN.out.below pn.near⟩
  case rest =>
    obtain ⟨rfl, hbs⟩ := hcut
    clear HBN
    have hDle := HD.out.le
    obtain ⟨a0, a1, a2, a3, a4, a5, a6⟩ := hbs.cells
    have HB0 := Lib.hid hbs
    clear hbs
    go_wp2_with fail
    refine (rcopy_any _ _ E D M _ (HD.out.below HB0.out.2.2) (HM.out.below HB0.out.2.2) hD hM).mono ?_
    rintro e w2 ⟨dv1, mv1, rfl, hd1, hm1, hb2⟩
    obtain ⟨p1, cap1, rfl⟩ := owns_shape hd1
    obtain ⟨q1, cap11, rfl⟩ := owns_shape hm1
    have hbn := below1 w2 (.cells #[.slice p1 D.length cap1, .slice q1 M.length cap11, .int .u64 E] 26)
    have hz7 : RamVar (w2.alloc (.cells #[.slice p1 D.length cap1, .slice q1 M.length cap11, .int .u64 E] 26)) w2.heap.size (.slice p1 D.length cap1) (.slice q1 M.length cap11) E := heap_alloc_new _ _
    have HB2 := Lib.hid ((HB0.out.below hb2).below hbn)
    have HC2 := Lib.hid (hd1.at.below hbn)
    have HCM2 := Lib.hid (hm1.at.below hbn)
    have HZ2 := Lib.hid hz7
    clear a0 a1 a2 a3 a4 a5 a6
    obtain ⟨a0, a1, a2, a3, a4, a5, a6⟩ := HB2.out.cells
    have hlt7 : w.heap.size + 1 < w2.heap.size := (HB0.out.below hb2).2.1.lt
    clear hd1 hm1 hb2 hbn hz7 HB0
    go_wp2_with fail
    generalize w2.alloc (.cells #[.slice p1 D.length cap1, .slice q1 M.length cap11, .int .u64 E] 26) = w3 at *
    generalize w2.heap.size = z7 at *
    refine (load_all _ _ _ D _ _ _ HC2.out HT.out.1 HT.out.2).mono ?_
    rintro e w4 ⟨rfl, hb4⟩
    have HB4 := Lib.hid (HB2.out.below hb4)
    have HC4 := Lib.hid (HC2.out.below hb4)
    have HCM4 := Lib.hid (HCM2.out.below hb4)
    have HZ4 := Lib.hid (HZ2.out.below hb4)
    clear a0 a1 a2 a3 a4 a5 a6 HB2 HC2 HCM2 HZ2 hb4
    obtain ⟨a0, a1, a2, a3, a4, a5, a6⟩ := HB4.out.cells
    go_wp2_with fail
    refine (rload_all _ _ _ D _ _ _ (HD.out.below HB4.out.2.2) HT.out.1 HT.out.2).mono ?_
    rintro e w5 ⟨rfl, hb5⟩
    have HB5 := Lib.hid (HB4.out.below hb5)
    have HC5 := Lib.hid (HC4.out.below hb5)
    have HCM5 := Lib.hid (HCM4.out.below hb5)
    have HZ5 := Lib.hid (HZ4.out.below hb5)
    clear a0 a1 a2 a3 a4 a5 a6 HB4 HC4 HCM4 HZ4 hb5
    obtain ⟨a0, a1, a2, a3, a4, a5, a6⟩ := HB5.out.cells
    obtain ⟨c0, c1, c2⟩ := HZ5.out.cells
    generalize ldV D t size = V at *
    generalize hE1 : stE D.length t size = e1 at *
    have HE1 := Lib.hid hE1
    clear hE1
    go_wp2_with fail
    refine (store_all _ _ E D M _ _ x _ HC5.out HCM5.out hD hM HT.out.1 HT.out.2 HX.out).mono ?_
    rintro e w6 ⟨dva, mva, rfl, hda, hma, hb6⟩
    obtain ⟨pa, capa, rfl⟩ := owns_shape hda
    obtain ⟨qa, capa2, rfl⟩ := owns_shape hma
    rw [HE1.out]
    generalize hEa : stX D.length E t size = Ea at *
    generalize hDa : stD D t size x = Da at *
    generalize hMa : stM D.length M E t size x = Ma at *
    have HDA := Lib.hid hDa
    have HMA := Lib.hid hMa
    have HEA := Lib.hid hEa
    clear hDa hMa hEa
    have hbn := below1 w6 (.cells #[.slice pa Da.length capa, .slice qa Ma.length capa2, .int .u64 Ea] 26)
    have hz : RamVar (w6.alloc (.cells #[.slice pa Da.length capa, .slice qa Ma.length capa2, .int .u64 Ea] 26)) w6.heap.size (.slice pa Da.length capa) (.slice qa Ma.length capa2) Ea := heap_alloc_new _ _
    have HB7 := Lib.hid ((HB5.out.below hb6).below hbn)
    have HC7 := Lib.hid ((HC5.out.below hb6).below hbn)
    have HCM7 := Lib.hid ((HCM5.out.below hb6).below hbn)
    have HZ7 := Lib.hid ((HZ5.out.below hb6).below hbn)
    have HA7 := Lib.hid (hda.at.below hbn)
    have HAM7 := Lib.hid (hma.at.below hbn)
    have HZA7 := Lib.hid hz
    have hlt12 : z7 < w6.heap.size := (HZ5.out.below hb6).lt
    clear a0 a1 a2 a3 a4 a5 a6 c0 c1 c2 HB5 HC5 HCM5 HZ5 hda hma hz hbn hb6
    obtain ⟨a0, a1, a2, a3, a4, a5, a6⟩ := HB7.out.cells
    go_wp2_with fail
    generalize w6.alloc (.cells #[.slice pa Da.length capa, .slice qa Ma.length capa2, .int .u64 Ea] 26) = w7 at *
    generalize w6.heap.size = z12 at *
    refine (rstore_all _ _ E D M _ _ x _ (HD.out.below HB7.out.2.2) (HM.out.below HB7.out.2.2) hD hM HT.out.1 HT.out.2 HX.out).mono ?_
    rintro e w8 ⟨dvb, mvb, rfl, hdb, hmb, hb8⟩
    rw [HE1.out, HEA.out]
    rw [HDA.out] at hdb
    rw [HMA.out] at hmb
    obtain ⟨pb, capb, rfl⟩ := owns_shape hdb
    obtain ⟨qb, capb2, rfl⟩ := owns_shape hmb
    have hbn := below1 w8 (.cells #[.slice pb Da.length capb, .slice qb Ma.length capb2, .int .u64 Ea] 26)
    have hz : RamVar (w8.alloc (.cells #[.slice pb Da.length capb, .slice qb Ma.length capb2, .int .u64 Ea] 26)) w8.heap.size (.slice pb Da.length capb) (.slice qb Ma.length capb2) Ea := heap_alloc_new _ _
    have HB9 := Lib.hid ((HB7.out.below hb8).below hbn)
    have HC9 := Lib.hid ((HC7.out.below hb8).below hbn)
    have HCM9 := Lib.hid ((HCM7.out.below hb8).below hbn)
    have HZ9 := Lib.hid ((HZ7.out.below hb8).below hbn)
    have HA9 := Lib.hid ((HA7.out.below hb8).below hbn)
    have HAM9 := Lib.hid ((HAM7.out.below hb8).below hbn)
    have HZA9 := Lib.hid ((HZA7.out.below hb8).below hbn)
    have HBD9 := Lib.hid (hdb.at.below hbn)
    have HBM9 := Lib.hid (hmb.at.below hbn)
    have HZB9 := Lib.hid hz
    have hlt13 : z12 < w8.heap.size := (HZA7.out.below hb8).lt
    clear a0 a1 a2 a3 a4 a5 a6 HB7 HC7 HCM7 HZ7 HA7 HAM7 HZA7 hdb hmb hz hbn hb8
    go_upto_region 10 with fail
    generalize w8.alloc (.cells #[.slice pb Da.length capb, .slice qb Ma.length capb2, .int .u64 Ea] 26) = w9 at *
    generalize w8.heap.size = z13 at *
    go_cut [96] (fun s96 wx => Want96 w9 wx s96)
    case first =>
      have N0 : Below w9.heap.size w9 w9.drew := (Below.refl _ _).drew
      have hs : ∀ w', Below w9.heap.size w9 w' → w'.cell? ⟨z12, 0, none⟩ = some (.slice pa Da.length capa) ∧ w'.cell? ⟨z12, 1, none⟩ = some (.slice qa Ma.length capa2) ∧ w'.cell? ⟨z12, 2, none⟩ = some (.int .u64 Ea) ∧ w'.cell? ⟨z13, 0, none⟩ = some (.slice pb Da.length capb) ∧ w'.cell? ⟨z13, 1, none⟩ = some (.slice qb Ma.length capb2) ∧ w'.cell? ⟨z13, 2, none⟩ = some (.int .u64 Ea) ∧ w'.cell? ⟨z7, 0, none⟩ = some (.slice p1 D.length cap1) ∧ w'.cell? ⟨z7, 1, none⟩ = some (.slice q1 M.length cap11) ∧ w'.cell? ⟨z7, 2, none⟩ = some (.int .u64 E) ∧ w'.cell? ⟨w.heap.size, 0, none⟩ = some (.slice p D.length cap) ∧ w'.cell? ⟨w.heap.size, 1, none⟩ = some (.slice q M.length cap2) ∧ w'.cell? ⟨w.heap.size, 2, none⟩ = some (.int .u64 E) := fun w' hb => by
        obtain ⟨a0, a1, a2, _⟩ := (HB9.out.below hb).cells
        obtain ⟨c0, c1, c2⟩ := (HZ9.out.below hb).cells
        obtain ⟨d0, d1, d2⟩ := (HZA9.out.below hb).cells
        obtain ⟨e0, e1', e2⟩ := (HZB9.out.below hb).cells
        exact ⟨d0, d1, d2, e0, e1', e2, c0, c1, c2, a0, a1, a2⟩
      have h1 : ∀ W, Below w9.heap.size w9 W → Calls Try.prog 16 #[Value.agg #[.slice pa Da.length capa, .slice qa Ma.length capa2, .int .u64 Ea], Value.agg #[.slice pb Da.length capb, .slice qb Ma.length capb2, .int .u64 Ea]] W fun e u => e = .returned (.bool true) ∧ Below w9.heap.size w9 u := fun W hb =>
        (same_true _ _ _ _ Ea Da Ma W (HA9.out.below hb) (HAM9.out.below hb) (HBD9.out.below hb) (HBM9.out.below hb)).mono fun _ _ ⟨he, hb2⟩ => ⟨he, below_then hb hb2⟩
      have h2 : ∀ W, Below w9.heap.size w9 W → Calls Try.prog 16 #[Value.agg #[.slice p1 D.length cap1, .slice q1 M.length cap11, .int .u64 E], Value.agg #[.slice p D.length cap, .slice q M.length cap2, .int .u64 E]] W fun e u => e = .returned (.bool true) ∧ Below w9.heap.size w9 u := fun W hb =>
        (same_true _ _ _ _ E D M W (HC9.out.below hb) (HCM9.out.below hb) (HD.out.below (below_then HB9.out.2.2 hb)) (HM.out.below (below_then HB9.out.2.2 hb))).mono fun _ _ ⟨he, hb2⟩ => ⟨he, below_then hb hb2⟩
      have h3 : ∀ W, Below w9.heap.size w9 W → Calls Try.prog 17 #[Value.agg #[.slice p1 D.length cap1, .slice q1 M.length cap11, .int .u64 E]] W (Copied w9 D M E) := fun W hb =>
        (copy_any _ _ E D M W (HC9.out.below hb) (HCM9.out.below hb) hD hM).mono fun _ _ ⟨dv, mv, he, hd, hm, hb2⟩ => by
          obtain ⟨pv, cv, rfl⟩ := owns_shape hd
          obtain ⟨qv, cv2, rfl⟩ := owns_shape hm
          exact ⟨pv, cv, qv, cv2, he, hd.at, hm.at, below_then hb hb2⟩
      have h4 : ∀ W pv cv qv cv2, DAt W (.slice pv D.length cv) D → MAt W (.slice qv M.length cv2) M → Below w9.heap.size w9 W → Calls Try.prog 16 #[.agg #[.slice pv D.length cv, .slice qv M.length cv2, .int .u64 E], Value.agg #[.slice p D.length cap, .slice q M.length cap2, .int .u64 E]] W fun e u => e = .returned (.bool true) ∧ Below w9.heap.size w9 u := fun W pv cv qv cv2 hd hm hb =>
        (same_true _ _ _ _ E D M W hd hm (HD.out.below (below_then HB9.out.2.2 hb)) (HM.out.below (below_then HB9.out.2.2 hb))).mono fun _ _ ⟨he, hb2⟩ => ⟨he, below_then hb hb2⟩
      have HS := Lib.hid hs
      have H1 := Lib.hid h1
      have H2 := Lib.hid h2
      have H3 := Lib.hid h3
      have H4 := Lib.hid h4
      clear hs h1 h2 h3 h4
      have heq : (e1 != e1) = false := by rw [bne_eq_false_iff_eq]
      go_region_held3 (fun w' => w'.cell? ⟨z12, 0, none⟩ = some (.slice pa Da.length capa) ∧ w'.cell? ⟨z12, 1, none⟩ = some (.slice qa Ma.length capa2) ∧ w'.cell? ⟨z12, 2, none⟩ = some (.int .u64 Ea) ∧ w'.cell? ⟨z13, 0, none⟩ = some (.slice pb Da.length capb) ∧ w'.cell? ⟨z13, 1, none⟩ = some (.slice qb Ma.length capb2) ∧ w'.cell? ⟨z13, 2, none⟩ = some (.int .u64 Ea) ∧ w'.cell? ⟨z7, 0, none⟩ = some (.slice p1 D.length cap1) ∧ w'.cell? ⟨z7, 1, none⟩ = some (.slice q1 M.length cap11) ∧ w'.cell? ⟨z7, 2, none⟩ = some (.int .u64 E) ∧ w'.cell? ⟨w.heap.size, 0, none⟩ = some (.slice p D.length cap) ∧ w'.cell? ⟨w.heap.size, 1, none⟩ = some (.slice q M.length cap2) ∧ w'.cell? ⟨w.heap.size, 2, none⟩ = some (.int .u64 E)) (exact HS.out _ (by first | with_reducible exact N4 | with_reducible exact N3 | with_reducible exact N2 | with_reducible exact N1 | with_reducible exact N0 | fail))
        (first | (go_at_call 16; (with_reducible refine (H1.out _ (by first | with_reducible exact N4 | with_reducible exact N3 | with_reducible exact N2 | with_reducible exact N1 | with_reducible exact N0 | fail)).mono ?_); rintro e u1 ⟨rfl, N1⟩) | (go_at_call 16; (with_reducible refine (H2.out _ (by first | with_reducible exact N4 | with_reducible exact N3 | with_reducible exact N2 | with_reducible exact N1 | with_reducible exact N0 | fail)).mono ?_); rintro e u2 ⟨rfl, N2⟩) | (go_at_call 17; (with_reducible refine (H3.out _ (by first | with_reducible exact N4 | with_reducible exact N3 | with_reducible exact N2 | with_reducible exact N1 | with_reducible exact N0 | fail)).mono ?_); rintro e u3 ⟨pv, cv, qv, cv2, rfl, K1, K2, N3⟩) | (go_at_call 16; (with_reducible refine (H4.out _ pv cv qv cv2 K1 K2 (by first | with_reducible exact N4 | with_reducible exact N3 | with_reducible exact N2 | with_reducible exact N1 | with_reducible exact N0 | fail)).mono ?_); rintro e u4 ⟨rfl, N4⟩))
      all_goals (go_wp2_with fail; go_meet; exact ⟨rfl, N4⟩)
    case rest =>
      obtain ⟨rfl, hbx⟩ := hcut
      have HB10 := Lib.hid (HB9.out.below hbx)
      have HC10 := Lib.hid (HC9.out.below hbx)
      have HZ10 := Lib.hid (HZ9.out.below hbx)
      have HZA10 := Lib.hid (HZA9.out.below hbx)
      have HZB10 := Lib.hid (HZB9.out.below hbx)
      clear hbx HB9 HC9 HCM9 HZ9 HA9 HAM9 HZA9 HBD9 HBM9 HZB9 HDA HMA HEA HE1
      obtain ⟨a0, a1, a2, a3, a4, a5, a6⟩ := HB10.out.cells
      obtain ⟨c0, c1, c2⟩ := HZ10.out.cells
      go_wp2_with fail
      refine (text_all _ D _ _ _ _ _ HC10.out HT.out.1 HT.out.2 HSZ.out.1 HSZ.out.2).mono ?_
      rintro e w11 ⟨rfl, hb11⟩
      have HB11 := Lib.hid (HB10.out.below hb11)
      have HZA11 := Lib.hid (HZA10.out.below hb11)
      have HZB11 := Lib.hid (HZB10.out.below hb11)
      clear a0 a1 a2 a3 a4 a5 a6 c0 c1 c2 HB10 HC10 HZ10 HZA10 HZB10 hb11
      obtain ⟨a0, a1, a2, a3, a4, a5, a6⟩ := HB11.out.cells
      go_wp2_with fail
      refine (rtext_all _ D _ _ _ _ _ (HD.out.below HB11.out.2.2) HT.out.1 HT.out.2 HSZ.out.1 HSZ.out.2).mono ?_
      rintro e w12 ⟨rfl, hb12⟩
      have HB12 := Lib.hid (HB11.out.below hb12)
      have HZA12 := Lib.hid (HZA11.out.below hb12)
      have HZB12 := Lib.hid (HZB11.out.below hb12)
      clear a0 a1 a2 a3 a4 a5 a6 HB11 HZA11 HZB11 hb12
      obtain ⟨a0, a1, a2, a3, a4, a5, a6⟩ := HB12.out.cells
      generalize textS D t size = S1 at *
      generalize textE D.length t size = e2 at *
      go_wp2_with fail
      refine (new_all _ _ _).mono ?_
      rintro e w13 ⟨dva, mva, rfl, hda, hma, hb13⟩
      obtain ⟨pc, capc, rfl⟩ := owns_shape hda
      obtain ⟨qc, capc2, rfl⟩ := owns_shape hma
      generalize hE3 : nwE n s = e3 at *
      have HE3 := Lib.hid hE3
      clear hE3
      generalize hDn : nwD n s = Dn at *
      generalize hMn : nwM n s = Mn at *
      have HDN := Lib.hid hDn
      have HMN := Lib.hid hMn
      clear hDn hMn a0 a1 a2 a3 a4 a5 a6
      have hlt12b : z12 < w12.heap.size := HZA12.out.lt
      have hlt13b : z13 < w12.heap.size := HZB12.out.lt
      have hz12 := HZA12.out.below hb13
      obtain ⟨d0, d1, d2⟩ := hz12.cells
      have d3 := hz12.free 0
      have d4 := hz12.free 1
      have d5 := hz12.free 2
      have ht14 : Touch w13 (((w13.setCell ⟨z12, 0, none⟩ (.slice pc Dn.length capc)).setCell ⟨z12, 1, none⟩ (.slice qc Mn.length capc2)).setCell ⟨z12, 2, none⟩ (.int .u64 0)) (fun k => k = z12) := (((Touch.refl w13 (fun k => k = z12)).setCell (.inl rfl) _).setCell (.inl rfl) _).setCell (.inl rfl) _
      have HB14 := Lib.hid ((HB12.out.below hb13).touch ht14 (by omega) (by omega) (fun k hk => by omega))
      have HZA14 := Lib.hid (hz12.store (.slice pc Dn.length capc) (.slice qc Mn.length capc2) 0)
      have HZB14 := Lib.hid ((HZB12.out.below hb13).touch ht14 (by omega))
      have HD14 := Lib.hid (show OwnD _ w12.heap.size _ Dn from owns_touch hda ht14 (fun g hg e => by have := (owns_lt hda hg).1; omega))
      have HM14 := Lib.hid (show OwnM _ w12.heap.size _ Mn from owns_touch hma ht14 (fun g hg e => by have := (owns_lt hma hg).1; omega))
      clear HB12 HZA12 HZB12 hda hma hb13 hz12 ht14
      obtain ⟨a0, a1, a2, a3, a4, a5, a6⟩ := HB14.out.cells
      go_wp2_with fail
      generalize (((w13.setCell ⟨z12, 0, none⟩ (.slice pc Dn.length capc)).setCell ⟨z12, 1, none⟩ (.slice qc Mn.length capc2)).setCell ⟨z12, 2, none⟩ (.int .u64 0)) = w14 at *
      refine (rnew_all _ _ _).mono ?_
      rintro e w15 ⟨dvb, mvb, rfl, hdb, hmb, hb15⟩
      rw [HDN.out] at hdb
      rw [HMN.out] at hmb
      obtain ⟨pd, capd, rfl⟩ := owns_shape hdb
      obtain ⟨qd, capd2, rfl⟩ := owns_shape hmb
      clear a0 a1 a2 a3 a4 a5 a6 d0 d1 d2 d3 d4 d5
      rw [HE3.out]
      have hlt13c : z13 < w14.heap.size := HZB14.out.lt
      have hz13 := HZB14.out.below hb15
      obtain ⟨d0, d1, d2⟩ := hz13.cells
      have d3 := hz13.free 0
      have d4 := hz13.free 1
      have d5 := hz13.free 2
      have ht16 : Touch w15 (((w15.setCell ⟨z13, 0, none⟩ (.slice pd Dn.length capd)).setCell ⟨z13, 1, none⟩ (.slice qd Mn.length capd2)).setCell ⟨z13, 2, none⟩ (.int .u64 0)) (fun k => k = z13) := (((Touch.refl w15 (fun k => k = z13)).setCell (.inl rfl) _).setCell (.inl rfl) _).setCell (.inl rfl) _
      have HBL := Lib.hid (show Below w.heap.size w (((w15.setCell ⟨z13, 0, none⟩ (.slice pd Dn.length capd)).setCell ⟨z13, 1, none⟩ (.slice qd Mn.length capd2)).setCell ⟨z13, 2, none⟩ (.int .u64 0)) from Touch.below (below_then HB14.out.2.2 hb15) ht16 (fun k hk => by omega) (Nat.le_trans HB14.out.2.2.size hb15.size))
      have HZA16 := Lib.hid ((HZA14.out.below hb15).touch ht16 (by omega))
      have HZB16 := Lib.hid (hz13.store (.slice pd Dn.length capd) (.slice qd Mn.length capd2) 0)
      have hd15 := HD14.out.below hb15
      have hm15 := HM14.out.below hb15
      have HC16 := Lib.hid (show OwnD _ w12.heap.size _ Dn from owns_touch hd15 ht16 (fun g hg e => by have := (owns_lt hd15 hg).1; omega))
      have HCM16 := Lib.hid (show OwnM _ w12.heap.size _ Mn from owns_touch hm15 ht16 (fun g hg e => by have := (owns_lt hm15 hg).1; omega))
      have HD16 := Lib.hid (show OwnD _ w14.heap.size _ Dn from owns_touch hdb ht16 (fun g hg e => by have := (owns_lt hdb hg).1; omega))
      have HDM16 := Lib.hid (show OwnM _ w14.heap.size _ Mn from owns_touch hmb ht16 (fun g hg e => by have := (owns_lt hmb hg).1; omega))
      clear hd15 hm15 hdb hmb ht16 hz13 hb15 HB14 HZA14 HZB14 HD14 HM14
      obtain ⟨f0, f1, f2⟩ := HZA16.out.cells
      obtain ⟨g0, g1, g2⟩ := HZB16.out.cells
      go_wp2_with fail
      generalize (((w15.setCell ⟨z13, 0, none⟩ (.slice pd Dn.length capd)).setCell ⟨z13, 1, none⟩ (.slice qd Mn.length capd2)).setCell ⟨z13, 2, none⟩ (.int .u64 0)) = w16 at *
      clear d0 d1 d2 d3 d4 d5 f0 f1 f2 g0 g1 g2
      refine (same_true _ _ _ _ 0 Dn Mn _ HC16.out.at HCM16.out.at HD16.out.at HDM16.out.at).mono ?_
      rintro e w17 ⟨rfl, hb17⟩
      have HBL2 := Lib.hid (below_then HBL.out hb17)
      clear hb17 HBL
      go_wp2_with fail
      go_ret
      exact ⟨ret_bool (by simp), HBL2.out⟩
end Go.Proofs.Ytocphogddjcblaa
