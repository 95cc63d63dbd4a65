/- RamStored: the walk. -/
import Derived.Test.YtocphogddjcblaaL
import Derived.Laws.BitsAllLaws
namespace Go.Proofs.Ytocphogddjcblaa
open Go.RowKit Go.Deep Go.Joins
/-- A spot in a variable. -/
def SpotVar (w : World) (z : Nat) (t size x : Int) (s : ByteArray) : Prop := w.heap[z]? = some (.cells #[.int .u64 t, .int .i64 size, .int .u64 x, .string s] 28 (0, 0))
theorem SpotVar.lt {w : World} {z : Nat} {t size x : Int} {s : ByteArray} (h : SpotVar w z t size x s) : z < w.heap.size := (Array.getElem?_eq_some_iff.1 h).1
theorem SpotVar.cells {w : World} {z : Nat} {t size x : Int} {s : ByteArray} (h : SpotVar w z t size x s) :
    w.cell? ⟨z, 0, none⟩ = some (.int .u64 t) ∧ w.cell? ⟨z, 1, none⟩ = some (.int .i64 size) ∧ w.cell? ⟨z, 2, none⟩ = some (.int .u64 x) ∧ w.cell? ⟨z, 3, none⟩ = some (.string s) := by
  refine ⟨?_, ?_, ?_, ?_⟩ <;> rw [cell_of_row w z _ _ 28 (0, 0) h] <;> rfl
theorem SpotVar.below {w w' : World} {z : Nat} {t size x : Int} {s : ByteArray} (h : SpotVar w z t size x s) (hb : Below w.heap.size w w') : SpotVar w' z t size x s := (hb.block z h.lt).trans h
theorem spot_new (w : World) (t size x : Int) (s : ByteArray) : SpotVar (w.alloc (.cells #[.int .u64 t, .int .i64 size, .int .u64 x, .string s] 28)) w.heap.size t size x s := heap_alloc_new _ _
theorem spot_new2 (w : World) (o : Obj) (t size x : Int) (s : ByteArray) : SpotVar ((w.alloc o).alloc (.cells #[.int .u64 t, .int .i64 size, .int .u64 x, .string s] 28)) (w.heap.size + 1) t size x s := by
  have h := heap_alloc_new (w.alloc o) (.cells #[.int .u64 t, .int .i64 size, .int .u64 x, .string s] 28)
  rwa [World.size_alloc] at h
theorem and_mask (x k : Nat) (hx : x < 18446744073709551616) (hk : 2 ^ k - 1 < 18446744073709551616) : bits .and .u64 (x : Int) ((2 ^ k - 1 : Nat) : Int) = ((x % 2 ^ k : Nat) : Int) := by
  have h := u64_and_nat x (2 ^ k - 1) hx hk
  rw [h, Nat.and_two_pow_sub_one_eq_mod]
theorem le_leL (x s : Nat) (hs : s = 1 ∨ s = 2 ∨ s = 4 ∨ s = 8) (hx : x < 18446744073709551616) : le ((leL x).take s) = x % 256 ^ s := by
  rcases hs with rfl | rfl | rfl | rfl
  all_goals simp [leL, le]
  all_goals omega
set_option maxHeartbeats 1000000 in
theorem stored_arg (p : Option Addr) (n cap : Nat) (q : Option Addr) (m cap2 : Nat) (E t size x : Int) (s : ByteArray) (w : World) (hl : loadsB size = false) :
    Calls Try.prog 5 #[.agg #[.slice p n cap, .slice q m cap2, .int .u64 E], .agg #[.int .u64 t, .int .i64 size, .int .u64 x, .string s]] w fun e w' => e = .returned (.bool true) ∧ Below w.heap.size w w' := by
  have HL := Lib.hid hl
  clear hl
  go_enter Try.func5, Try.ntmps5
  go_wp2_with fail
  refine (awake_any _).mono ?_
  rintro e w1 ⟨rfl, hb1⟩
  have hx1 := (first_box w (.slice p n cap) (.slice q m cap2) E (.cells #[.int .u64 t, .int .i64 size, .int .u64 x, .string s] 28)).below hb1
  have hr1 := (spot_new2 w (.cells #[.slice p n cap, .slice q m cap2, .int .u64 E] 26) t size x s).below hb1
  obtain ⟨x0, x1, x2⟩ := hx1.cells
  obtain ⟨y0, y1, y2, y3⟩ := hr1.cells
  have HB := Lib.hid (below_then (below2 w _ _) hb1)
  clear hx1 hr1 hb1
  go_wp2_with fail
  refine (store_arg _ _ _ _ _ _ _ HL.out).mono ?_
  rintro e w2 ⟨rfl, hb2⟩
  have HB2 := Lib.hid (below_then HB.out hb2)
  clear hb2 x0 x1 x2 y0 y1 y2 y3
  go_wp2_with fail
  go_ret
  exact ⟨rfl, HB2.out.alloc HB2.out.size _⟩
set_option maxHeartbeats 1000000 in
theorem stored_ram (p : Option Addr) (n cap : Nat) (q : Option Addr) (m cap2 : Nat) (E t size x : Int) (s : ByteArray) (w : World) (hn : n ≤ 9223372036854775807) (ht0 : 0 ≤ t) (ht1 : t ≤ 18446744073709551615) (hl : loadsB size = true) (hth : thereB n t size = false) :
    Calls Try.prog 5 #[.agg #[.slice p n cap, .slice q m cap2, .int .u64 E], .agg #[.int .u64 t, .int .i64 size, .int .u64 x, .string s]] w fun e w' => e = .returned (.bool true) ∧ Below w.heap.size w w' := by
  have HL := Lib.hid hl
  have HT := Lib.hid hth
  clear hl hth
  go_enter Try.func5, Try.ntmps5
  go_wp2_with fail
  refine (awake_any _).mono ?_
  rintro e w1 ⟨rfl, hb1⟩
  have hx1 := (first_box w (.slice p n cap) (.slice q m cap2) E (.cells #[.int .u64 t, .int .i64 size, .int .u64 x, .string s] 28)).below hb1
  have hr1 := (spot_new2 w (.cells #[.slice p n cap, .slice q m cap2, .int .u64 E] 26) t size x s).below hb1
  obtain ⟨x0, x1, x2⟩ := hx1.cells
  obtain ⟨y0, y1, y2, y3⟩ := hr1.cells
  have HB := Lib.hid (below_then (below2 w _ _) hb1)
  clear hx1 hr1 hb1
  go_wp2_with fail
  refine (store_ram _ _ _ _ _ _ _ _ _ hn ht0 ht1 HL.out HT.out).mono ?_
  rintro e w2 ⟨rfl, hb2⟩
  have HB2 := Lib.hid (below_then HB.out hb2)
  clear hb2 x0 x1 x2 y0 y1 y2 y3
  go_wp2_with fail
  go_ret
  exact ⟨rfl, HB2.out.alloc HB2.out.size _⟩
theorem spl_read (D : List UInt8) (k : Nat) (b : ByteArray) (h : k + b.size ≤ D.length) : ((spl D k b).drop k).take b.size = b.data.toList := by
  have hx : b.data.toList.length = b.size := by rw [Array.length_toList]; rfl
  unfold spl splice
  rw [List.drop_append, List.length_take, Nat.min_eq_left (by omega), Nat.sub_self, List.drop_zero, List.drop_eq_nil_of_le (by rw [List.length_take]; omega), List.nil_append, List.take_append, hx, Nat.sub_self, List.take_zero, List.append_nil, List.take_of_length_le (by omega)]
theorem spl_else (D : List UInt8) (k : Nat) (b : ByteArray) (h : k + b.size ≤ D.length) (i : Nat) (hi : i < k ∨ k + b.size ≤ i) : (spl D k b).getD i 0 = D.getD i 0 := by
  have hx : b.data.toList.length = b.size := by rw [Array.length_toList]; rfl
  unfold spl splice
  rw [List.getD_eq_getElem?_getD, List.getD_eq_getElem?_getD]
  congr 1
  rcases hi with hi | hi
  · rw [List.getElem?_append_left (by rw [List.length_take]; omega), List.getElem?_take_of_lt hi]
  · rw [List.getElem?_append_right (by rw [List.length_take]; omega), List.length_take, Nat.min_eq_left (by omega), List.getElem?_append_right (by omega), hx, List.getElem?_drop]
    congr 1
    omega
theorem stored_read (D : List UInt8) (k x size : Nat) (hs : size = 1 ∨ size = 2 ∨ size = 4 ∨ size = 8) (hx : x < 18446744073709551616) (h : k + size ≤ D.length) : le (((spl D k (bytesN x size)).drop k).take size) = x % 256 ^ size := by
  have hb : (bytesN x size).size = size := bytesN_size _ _ (by omega)
  have h1 := spl_read D k (bytesN x size) (by omega)
  rw [hb] at h1
  rw [h1]
  exact le_leL x size hs hx
def Want (X : Nat) (w : World) (s : Value) (wx : World) : Prop := s = .int .u64 X ∧ wx = w
set_option maxRecDepth 100000 in
set_option maxHeartbeats 2000000 in
theorem stored_yes (dv mv : Value) (E : Int) (D : List UInt8) (M : List Int) (t : Int) (size x : Nat) (s : ByteArray) (w : World) (hd : DAt w dv D) (hm : MAt w mv M) (hD : D.length ≤ 140737488351232) (hM : M.length ≤ 17592186043904) (ht0 : 0 ≤ t) (ht1 : t ≤ 18446744073709551615)
    (hx : x < 18446744073709551616) (hl : loadsB size = true) (hth : thereB D.length t size = true) :
    Calls Try.prog 5 #[.agg #[dv, mv, .int .u64 E], .agg #[.int .u64 t, .int .i64 size, .int .u64 x, .string s]] w fun e w' => e = .returned (.bool true) ∧ Below w.heap.size w w' := by
  obtain ⟨p, cap, rfl⟩ := hd.is
  obtain ⟨q, cap2, rfl⟩ := hm.is
  have hDle := hd.le
  have hs : size = 1 ∨ size = 2 ∨ size = 4 ∨ size = 8 := by unfold loadsB at hl; simp at hl; omega
  obtain ⟨_, ht2, ht3⟩ := there_iff.1 hth
  obtain ⟨k, rfl⟩ : ∃ k : Nat, t = k + 2147483648 := ⟨(t - 2147483648).toNat, by omega⟩
  have hk : k + size ≤ D.length := by omega
  have HL := Lib.hid hl
  have HT := Lib.hid hth
  have HD := Lib.hid hd
  have HM := Lib.hid hm
  clear hl hth hd hm ht3
  go_enter Try.func5, Try.ntmps5
  go_wp2_with fail
  refine (awake_any _).mono ?_
  rintro e w1 ⟨rfl, hb1⟩
  have hx1 := (first_box w (.slice p D.length cap) (.slice q M.length cap2) E (.cells #[.int .u64 (k + 2147483648), .int .i64 size, .int .u64 x, .string s] 28)).below hb1
  have hr1 := (spot_new2 w (.cells #[.slice p D.length cap, .slice q M.length cap2, .int .u64 E] 26) (k + 2147483648) size x s).below hb1
  obtain ⟨x0, x1, x2⟩ := hx1.cells
  obtain ⟨y0, y1, y2, y3⟩ := hr1.cells
  have HB := Lib.hid (below_then (below2 w _ _) hb1)
  have HX := Lib.hid hx1
  have HR := Lib.hid hr1
  clear hx1 hr1 hb1
  go_wp2_with fail
  refine (store_any _ _ E D M _ size x _ (HD.out.below HB.out) (HM.out.below HB.out) hD hM ht0 ht1 hx HL.out HT.out).mono ?_
  rintro e w2 ⟨dv', mv', rfl, hd2, hm2, hb2⟩
  have hbs : (bytesN x size).size = size := bytesN_size _ _ (by omega)
  have ePD : putD D (k + 2147483648) (bytesN x size) = spl D k (bytesN x size) := by
    unfold putD
    rw [if_pos ⟨by omega, by rw [hbs]; exact HT.out⟩, show ((k : Int) + 2147483648 - 2147483648).toNat = k by omega]
  rw [ePD] at hd2
  have hpl : (spl D k (bytesN x size)).length = D.length := spl_length _ _ _ (by omega)
  obtain ⟨p', cap', rfl⟩ := owns_shape hd2
  obtain ⟨q', cap2', rfl⟩ := owns_shape hm2
  rw [hpl]
  generalize (putM D.length M E (k + 2147483648) (bytesN x size)).length = m'
  have HB2 := Lib.hid (below_then HB.out hb2)
  have hx2 := HX.out.below hb2
  have hr2 := HR.out.below hb2
  obtain ⟨x0', x1', x2'⟩ := hx2.cells
  obtain ⟨y0', y1', y2', y3'⟩ := hr2.cells
  have HX2 := Lib.hid hx2
  have HR2 := Lib.hid hr2
  have HD2 := Lib.hid hd2
  have HPL := Lib.hid hpl
  have HXX := Lib.hid hx
  clear x0 x1 x2 y0 y1 y2 y3 hx2 hr2 hd2 hm2 hb2 hbs ePD hpl HX HR hx
  go_upto_if 26 with fail
  have hz3 : RamVar (w2.alloc (.cells #[.slice p' D.length cap', .slice q' m' cap2', .int .u64 E] 26)) w2.heap.size (.slice p' D.length cap') (.slice q' m' cap2') E := heap_alloc_new _ _
  have hbn := below1 w2 (.cells #[.slice p' D.length cap', .slice q' m' cap2', .int .u64 E] 26)
  have hx3 := HX2.out.below hbn
  have hr3 := HR2.out.below hbn
  have hd3 : DAt (w2.alloc (.cells #[.slice p' D.length cap', .slice q' m' cap2', .int .u64 E] 26)) (.slice p' D.length cap') (spl D k (bytesN x size)) := by
    have h := HD2.out.at.below hbn
    rwa [HPL.out] at h
  have hb3 := below_then HB2.out hbn
  have hdo3 := HD.out.below hb3
  generalize w2.alloc (.cells #[.slice p' D.length cap', .slice q' m' cap2', .int .u64 E] 26) = w3 at *
  generalize w2.heap.size = z at *
  obtain ⟨z0, z1, z2⟩ := hz3.cells
  obtain ⟨x0, x1, x2⟩ := hx3.cells
  obtain ⟨y0, y1, y2, y3⟩ := hr3.cells
  have HZ3 := Lib.hid hz3
  have HX3 := Lib.hid hx3
  have HR3 := Lib.hid hr3
  have HD3 := Lib.hid hd3
  have HB3 := Lib.hid hb3
  have HDO3 := Lib.hid hdo3
  clear hz3 hx3 hr3 hd3 hb3 hdo3 hbn x0' x1' x2' y0' y1' y2' y3' HX2 HR2 HD2
  go_wp2_with fail
  have hrd := stored_read D k x size hs HXX.out hk
  refine (load_any _ (spl D k (bytesN x size)) _ _ _ _ _ HD3.out ht0 ht1 HL.out (by rw [HPL.out]; exact HT.out)).mono ?_
  rintro e w4 ⟨rfl, hb4⟩
  rw [show ((k : Int) + 2147483648 - 2147483648).toNat = k by omega, Int.toNat_natCast, hrd]
  have hz4 := HZ3.out.below hb4
  have hx4 := HX3.out.below hb4
  have hr4 := HR3.out.below hb4
  have HD4 := Lib.hid (HD3.out.below hb4)
  have HDO4 := Lib.hid (HDO3.out.below hb4)
  have HB4 := Lib.hid (below_then HB3.out hb4)
  clear z0 z1 z2 x0 x1 x2 y0 y1 y2 y3
  obtain ⟨z0, z1, z2⟩ := hz4.cells
  obtain ⟨x0, x1, x2⟩ := hx4.cells
  obtain ⟨y0, y1, y2, y3⟩ := hr4.cells
  have HZ4 := Lib.hid hz4
  have HX4 := Lib.hid hx4
  have HR4 := Lib.hid hr4
  clear hz4 hx4 hr4 hb4 HZ3 HX3 HR3 HD3 HDO3 HB3 hrd
  generalize hX : x % 256 ^ size = X at *
  have HXE := Lib.hid hX
  clear hX
  go_upto_if 44 with fail
  go_cut [9] (fun s9 wx => Want X w4 s9 wx)
  case first =>
    rcases hs with rfl | rfl | rfl | rfl
    · have y1' : w4.cell? ⟨w.heap.size + 1, 1, none⟩ = some (.int .i64 1) := y1
      clear y1
      refine wp_cond_true (show Value.bool (decide (((1 : Nat) : Int) < 8)) = .bool true from rfl) ?_
      go_wp2_with fail
      go_meet
      exact ⟨by rw [← HXE.out]; exact congrArg (Value.int .u64) (and_mask x 8 HXX.out (by decide)), rfl⟩
    · have y1' : w4.cell? ⟨w.heap.size + 1, 1, none⟩ = some (.int .i64 2) := y1
      clear y1
      refine wp_cond_true (show Value.bool (decide (((2 : Nat) : Int) < 8)) = .bool true from rfl) ?_
      go_wp2_with fail
      go_meet
      exact ⟨by rw [← HXE.out]; exact congrArg (Value.int .u64) (and_mask x 16 HXX.out (by decide)), rfl⟩
    · have y1' : w4.cell? ⟨w.heap.size + 1, 1, none⟩ = some (.int .i64 4) := y1
      clear y1
      refine wp_cond_true (show Value.bool (decide (((4 : Nat) : Int) < 8)) = .bool true from rfl) ?_
      go_wp2_with fail
      go_meet
      exact ⟨by rw [← HXE.out]; exact congrArg (Value.int .u64) (and_mask x 32 HXX.out (by decide)), rfl⟩
    · refine wp_cond_false (show Value.bool (decide (((8 : Nat) : Int) < 8)) = .bool false from rfl) ?_
      go_wp2_with fail
      go_meet
      exact ⟨by rw [← HXE.out, Nat.mod_eq_of_lt (show x < 256 ^ 8 by have := HXX.out; omega)], rfl⟩
  case rest =>
    obtain ⟨rfl, rfl⟩ := hcut
    have hpos : 0 < D.length := by omega
    obtain ⟨b, off, _, e1, _, _, hb, hc⟩ := HDO4.out.cell hpos
    obtain ⟨b', off', _, e2, _, _, hb', hc'⟩ := HD4.out.cell (by rw [HPL.out]; exact hpos)
    simp only [Value.slice.injEq] at e1 e2
    obtain ⟨rfl, hq1, rfl⟩ := e1
    obtain ⟨rfl, hq2, rfl⟩ := e2
    clear hq1 hq2
    have hbs : (bytesN x size).size = size := bytesN_size _ _ (by omega)
    have hcell : ∀ j, j < D.length → j < k ∨ k + size ≤ j → wc.cell? ⟨b, off + j, none⟩ = some (.int .u8 (D.getD j 0).toNat) ∧ wc.cell? ⟨b', off' + j, none⟩ = some (.int .u8 (D.getD j 0).toNat) := fun j hj hjk => by
      refine ⟨?_, ?_⟩
      · rw [hc j hj, List.getD_eq_getElem?_getD, List.getElem?_eq_getElem hj]; rfl
      · rw [hc' j (by rw [HPL.out]; exact hj), ← spl_else D k (bytesN x size) (by omega) j (by omega), List.getD_eq_getElem?_getD, List.getElem?_eq_getElem (by rw [HPL.out]; exact hj)]; rfl
    have HCELL := Lib.hid hcell
    clear hcell hc hc' hbs
    go_wp2_with fail
    go_loopw [11] (fun i wr => ∃ j : Nat, j ≤ D.length ∧ i = .int .i64 j ∧ Hid (Below wc.heap.size wc wr)) (fun i _ => D.length - (intOf i).toNat)
    case atStart => exact ⟨0, Nat.zero_le _, rfl, Lib.hid (Below.refl _ _)⟩
    case round =>
      obtain ⟨j, hj, rfl, hbl⟩ := hrel
      have hz5 := HZ4.out.below hbl.out
      have hx5 := HX4.out.below hbl.out
      have hr5 := HR4.out.below hbl.out
      clear z0 z1 z2 x0 x1 x2 y0 y1 y2 y3
      obtain ⟨z0, z1, z2⟩ := hz5.cells
      obtain ⟨x0, x1, x2⟩ := hx5.cells
      obtain ⟨y0, y1, y2, y3⟩ := hr5.cells
      clear hz5 hx5 hr5 z1 z2 x1 x2 y0 y2 y3
      by_cases hlt : j < D.length
      · by_cases h1 : j < k
        · obtain ⟨c1, c2⟩ := HCELL.out j hlt (.inl h1)
          have d1 := (hbl.out.cell (p := ⟨b, off + j, none⟩) hb).trans c1
          have d2 := (hbl.out.cell (p := ⟨b', off' + j, none⟩) hb').trans c2
          clear c1 c2
          generalize ((D.getD j 0).toNat : Int) = C at d1 d2
          have g0 : decide (j < D.length) = true := decide_eq_true (by omega)
          have g1 : decide (j < k) = true := decide_eq_true (by omega)
          clear ht0 ht1 ht2
          go_wp2_with fail
          go_quiet (fail)
          go_wp2_with fail
          exact ⟨⟨j + 1, by omega, by go_num, Lib.hid (hbl.out.trans ⟨rfl, rfl, rfl, Nat.le_refl _, fun _ _ => rfl⟩)⟩, by simp [intOf]; omega⟩
        · by_cases h2 : k + size ≤ j
          · obtain ⟨c1, c2⟩ := HCELL.out j hlt (.inr h2)
            have d1 := (hbl.out.cell (p := ⟨b, off + j, none⟩) hb).trans c1
            have d2 := (hbl.out.cell (p := ⟨b', off' + j, none⟩) hb').trans c2
            clear c1 c2
            generalize ((D.getD j 0).toNat : Int) = C at d1 d2
            have g0 : decide (j < D.length) = true := decide_eq_true (by omega)
            have g1 : decide (j < k) = false := decide_eq_false (by omega)
            have g2 : decide ((k : Int) + size ≤ j) = true := decide_eq_true (by omega)
            clear ht0 ht1 ht2
            go_wp2_with fail
            go_quiet (fail)
            go_wp2_with fail
            exact ⟨⟨j + 1, by omega, by go_num, Lib.hid (hbl.out.trans ⟨rfl, rfl, rfl, Nat.le_refl _, fun _ _ => rfl⟩)⟩, by simp [intOf]; omega⟩
          · have g0 : decide (j < D.length) = true := decide_eq_true (by omega)
            have g1 : decide (j < k) = false := decide_eq_false (by omega)
            have g2 : decide ((k : Int) + size ≤ j) = false := decide_eq_false (by omega)
            clear ht0 ht1 ht2
            go_wp2_with fail
            go_quiet (fail)
            go_wp2_with fail
            exact ⟨⟨j + 1, by omega, by go_num, Lib.hid (hbl.out.trans ⟨rfl, rfl, rfl, Nat.le_refl _, fun _ _ => rfl⟩)⟩, by simp [intOf]; omega⟩
      · have g0 : decide (j < D.length) = false := decide_eq_false (by omega)
        clear ht0 ht1 ht2
        go_wp2_with fail
        go_ret
        exact ⟨rfl, below_then HB4.out hbl.out⟩
end Go.Proofs.Ytocphogddjcblaa
