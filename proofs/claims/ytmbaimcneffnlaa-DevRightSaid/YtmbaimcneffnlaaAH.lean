/- Act: a frame is received. -/
import Derived.Test.YtmbaimcneffnlaaAE
import Derived.Test.YtmbaimcneffnlaaAD
namespace Go.Proofs.Ytmbaimcneffnlaa
open Go.RowKit Go.Deep Go.Joins
theorem Box.rd_fr {w : World} {g n c : Nat} {p : Option Addr} {b : Bd} (k : Box w g (b.at p n c)) : (Instr.loadAt 23 (.pointer (some ⟨g, 9, none⟩))).run Try.prog w = .ok (.slice p n c) w := k.load_fr
theorem own_head {w : World} {B c : Nat} {p : Option Addr} {F : List ByteArray} (h : w.ownsRow B 9 1 (.slice p F.length c) F.length (sC F)) (h0 : 0 < F.length) : ∃ g, p = some ⟨g, 0, none⟩ ∧ F.length ≤ c := by
  rcases h.2 with ⟨_, e⟩ | ⟨g, cap, cur, e, _, _, hn, _⟩
  · omega
  · simp only [Value.slice.injEq, true_and] at e
    exact ⟨g, e.1, by omega⟩
theorem own_cell {w : World} {B c g : Nat} {F : List ByteArray} (h : w.ownsRow B 9 1 (.slice (some ⟨g, 0, none⟩) F.length c) F.length (sC F)) (j : Nat) (hj : j < F.length) : w.cell? ⟨g, j, none⟩ = some (.string F[j]) := by
  have k := h.cells (g := g) rfl j (.string F[j]) (by simp [sC, hj])
  rwa [add_lit, Nat.zero_add] at k
theorem tail_fat {w : World} {B c g : Nat} {F : List ByteArray} (h : w.ownsRow B 9 1 (.slice (some ⟨g, 0, none⟩) F.length c) F.length (sC F)) (h0 : 0 < F.length) (hc : F.length ≤ c) (hm : c ≤ maxLen) : FAt w (.slice (some ⟨g, 1, none⟩) F.tail.length (c - 1)) F.tail := by
  refine ⟨by rw [sC_length, Nat.mul_one], .inr ⟨_, _, rfl, by rw [List.length_tail]; omega, by omega, fun j u hu => ?_⟩⟩
  have hj : j < F.tail.length := by have := (List.getElem?_eq_some_iff.1 hu).1; rwa [sC_length] at this
  have hj2 : 1 + j < F.length := by rw [List.length_tail] at hj; omega
  rw [add_lit, own_cell h (1 + j) hj2]
  unfold sC at hu
  rw [List.getElem?_map, List.getElem?_eq_getElem hj] at hu
  rw [← Option.some.inj hu, List.getElem_tail]
  congr 3
  omega
theorem tail_none {w : World} {g : Nat} {F : List ByteArray} (h : F.length = 1) : FAt w (.slice (some ⟨g, 0, none⟩) F.tail.length 0) F.tail := by
  have h0 : F.tail.length = 0 := by rw [List.length_tail]; omega
  refine ⟨by rw [sC_length, Nat.mul_one], .inr ⟨_, _, rfl, by omega, by unfold maxLen; omega, fun j u hu => ?_⟩⟩
  have hj := (List.getElem?_eq_some_iff.1 hu).1
  rw [sC_length] at hj
  omega
theorem own_max {w : World} {B c : Nat} {p : Option Addr} {F : List ByteArray} (h : w.ownsRow B 9 1 (.slice p F.length c) F.length (sC F)) (h0 : 0 < F.length) : c ≤ maxLen := by
  rcases h.2 with ⟨_, e⟩ | ⟨g, cap, cur, e, _, _, _, hm, _⟩
  · omega
  · simp only [Value.slice.injEq, true_and] at e
    omega
set_option maxRecDepth 100000 in
set_option maxHeartbeats 2000000 in
theorem act_recv0 (b : Bd) (F : List ByteArray) (p1 q1 : Option Addr) (c1 d1 : Nat) (E : Int) (es : ByteArray) (D : List UInt8) (M : List Int)  (W : World) (hf : FAt W (.slice b.fp b.fn b.fc) F) (hF : F.length ≤ 8796093022208) (hd : DAt W (.slice p1 D.length c1) D) (hm : MAt W (.slice q1 M.length d1) M) (hD : D.length ≤ 140737488351232) (hM : M.length ≤ 17592186043904)(h0 : ¬ 0 < F.length) : Calls Try.prog 21 #[bdV b, .agg (ramC (.slice p1 D.length c1) (.slice q1 M.length d1) E), .agg #[.int .i64 4, .string es]] W (Acted W (b) (F) E (D) (M) (⟨#[]⟩) (false)) := by
  have HFR := Lib.hid (fun W' (h : Below W.heap.size W W') => hf.next h)
  have HDD := Lib.hid (fun W' (h : Below W.heap.size W W') => hd.below h)
  have HMM := Lib.hid (fun W' (h : Below W.heap.size W W') => hm.below h)
  have HSZ := Lib.hid (And.intro hF (And.intro hD hM))
  clear hf hF hd hm hD hM
  have g0 : decide (0 < F.length) = false := decide_eq_false h0
  clear h0
  go_enter Try.func21, Try.ntmps21
  have X := Lib.hid (act_start W b p1 q1 D.length M.length c1 d1 E 4 es)
  go_upto_region 1 with (fail)
  generalize ((((W.alloc (bdO b)).alloc (.cells (ramC (.slice p1 D.length c1) (.slice q1 M.length d1) E) 49)).alloc (.cells #[.int .i64 4, .string es] 42)).alloc zeroO).alloc ramZO = wr at X ⊢
  go_cut [10] (fun s10 wx => ∃ (z : Nat) (p : Option Addr) (c : Nat) (p2 : Option Addr) (c2 : Nat) (q2 : Option Addr) (d2 : Nat), s10 = .pointer (some ⟨z, 0, none⟩) ∧ RowKit.Hid (Mem W wx [(z, ramC (.slice p2 D.length c2) (.slice q2 M.length d2) E, 49), (W.heap.size + 1 + 1 + 1 + 1, ramZC, 49), (W.heap.size + 1 + 1 + 1, bdC bdZ, 30), (W.heap.size + 1 + 1, #[.int .i64 4, .string es], 42), (W.heap.size + 1, (ramC (.slice p1 D.length c1) (.slice q1 M.length d1) E), 49), (W.heap.size, bdC (b.at p F.length c), 30)] [(22, .slice q2 M.length d2, M.length, mC M), (5, .slice p2 D.length c2, D.length, dC D), (9, .slice p F.length c, F.length, sC F)]))
  case first =>
    refine wp_region_held (S := fun w => w.heap[W.heap.size + 1]? = some (.cells (ramC (.slice p1 D.length c1) (.slice q1 M.length d1) E) 49 (0, 0))) (by kernel_rfl) ?_
    have hdr : { wr with drawn := wr.drawn + 1 } = wr.drew := rfl
    rw [hdr]
    clear hdr
    replace X := Lib.hid (X.out.next (Below.refl _ _).drew)
    generalize wr.drew = wz at X ⊢
    have hS : wz.heap[W.heap.size + 1]? = some (.cells (ramC (.slice p1 D.length c1) (.slice q1 M.length d1) E) 49 (0, 0)) := X.out.g3
    refine wpAnyH_take (i := 2) (oi := ⟨some 18, Op.load 49 (.tmp 4), _, _, _, none⟩) (v := _) rfl (by kernel_rfl) (by kernel_rfl) (by kernel_rfl) (fun _ _ _ h => h) (yields_load rfl rfl rfl (fun w hw => ram_load hw)) hS ?_
    simp only [Act.put, List.setIfInBounds_toArray, List.set_cons_zero, List.set_cons_succ]
    refine wpAnyH_ready (rs := [0, 4]) (by kernel_rfl) (by simp) ?_
    refine cons_op (i := 0) (o := ⟨some 16, Op.load 30 (.tmp 3), _, _, _, _⟩) (w' := _) rfl rfl (exec_load rfl (Box.load X.out.b4) rfl) hS ?_ ?_
    · simp only [Act.put, List.setIfInBounds_toArray, List.set_cons_zero, List.set_cons_succ]
      refine wpAnyH_ready (rs := [1, 4]) (by kernel_rfl) (by simp) ?_
      refine cons_calls (i := 1) (o := ⟨some 17, Op.call { callee := .value (.func 20), args := #[.tmp 16], argTypes := #[30] }, _, _, _, _⟩) rfl (by kernel_rfl) (by go_simp) (calls_copied (copy_bd b F _ (HFR.out _ X.out.below) HSZ.out.1)) ?_ ?_
      · rintro v' w' ⟨p, c, hv', ho, kk⟩
        subst hv'
        replace X := Lib.hid ((X.out.next kk).addrow ho X.out.below.size (by decide))
        refine ⟨X.out.g3, fun hS => ?_⟩
        clear ho kk
        simp only [Act.put, List.setIfInBounds_toArray, List.set_cons_zero, List.set_cons_succ]
        refine wpAnyH_ready (rs := [3, 4]) (by kernel_rfl) (by simp) ?_
        refine cons_calls (i := 3) (o := ⟨some 19, Op.call { callee := .value (.func 33), args := #[.tmp 18], argTypes := #[49] }, _, _, _, _⟩) rfl (by kernel_rfl) (by go_simp) (calls_mem (copy_any _ _ E D M _ (HDD.out _ X.out.below) (HMM.out _ X.out.below) HSZ.out.2.1 HSZ.out.2.2)) ?_ ?_
        · rintro v' w' ⟨p2, c2, q2, d2, hv', ho, ho2, kk⟩
          subst hv'
          replace X := Lib.hid (((X.out.next kk).addrow ho X.out.below.size (by decide)).addrow ho2 X.out.below.size (by decide))
          refine ⟨X.out.g3, fun hS => ?_⟩
          clear ho ho2 kk
          simp only [Act.put, List.setIfInBounds_toArray, List.set_cons_zero, List.set_cons_succ]
          refine held_op (i := 4) (o := ⟨some 10, Op.alloc 49, _, _, _, _⟩) (w' := w'.alloc ramZO) (v := .pointer (some ⟨w'.heap.size, 0, none⟩)) (by kernel_rfl) rfl rfl (by go_simp) X.out.newR.g4 ?_
          simp only [Act.put, List.setIfInBounds_toArray, List.set_cons_zero, List.set_cons_succ]
          replace X := Lib.hid X.out.newR
          have hS := X.out.g4
          generalize hz : w'.heap.size = z at X ⊢
          clear hz
          generalize w'.alloc ramZO = wn at X hS ⊢
          refine held_store (i := 5) (o := ⟨none, Op.store 30 (.tmp 3) (.tmp 17), _, _, _, none⟩) (by kernel_rfl) rfl rfl rfl rfl rfl (store_box _ _ _ _ X.out.b5 (bdC_size _)) (X.out.p5 (cs' := bdC (b.at p F.length c)) rfl).g4 ?_
          simp only [Act.put]
          replace X := Lib.hid (X.out.p5 (cs' := bdC (b.at p F.length c)) rfl)
          replace hS := X.out.g4
          refine held_store (i := 6) (o := ⟨none, Op.store 49 (.tmp 10) (.tmp 19), _, _, _, none⟩) (by kernel_rfl) rfl rfl rfl rfl rfl (ram_store X.out.g0 rfl) (X.out.p0 (cs' := ramC (.slice p2 D.length c2) (.slice q2 M.length d2) E) rfl).g4 ?_
          simp only [Act.put]
          replace X := Lib.hid (X.out.p0 (cs' := ramC (.slice p2 D.length c2) (.slice q2 M.length d2) E) rfl)
          refine wpAnyH_done (by kernel_rfl) ?_ _
          go_wp2_with fail
          go_meet
          exact ⟨_, p, c, p2, c2, q2, d2, rfl, X⟩
        refine cons_op (i := 4) (o := ⟨some 10, Op.alloc 49, _, _, _, _⟩) (w' := w'.alloc ramZO) (v := .pointer (some ⟨w'.heap.size, 0, none⟩)) rfl rfl (by go_simp) X.out.newR.g4 ?_ AllReadyH.nil
        simp only [Act.put, List.setIfInBounds_toArray, List.set_cons_zero, List.set_cons_succ]
        replace X := Lib.hid X.out.newR
        have hS := X.out.g4
        generalize hz : w'.heap.size = z at X ⊢
        clear hz
        generalize w'.alloc ramZO = wn at X hS ⊢
        refine held_calls (i := 3) (o := ⟨some 19, Op.call { callee := .value (.func 33), args := #[.tmp 18], argTypes := #[49] }, _, _, _, _⟩) (by kernel_rfl) rfl (by kernel_rfl) (by go_simp) (calls_mem (copy_any _ _ E D M _ (HDD.out _ X.out.below) (HMM.out _ X.out.below) HSZ.out.2.1 HSZ.out.2.2)) ?_
        rintro v' w' ⟨p2, c2, q2, d2, hv', ho, ho2, kk⟩
        subst hv'
        replace X := Lib.hid (((X.out.next kk).addrow ho X.out.below.size (by decide)).addrow ho2 X.out.below.size (by decide))
        refine ⟨X.out.g4, fun hS => ?_⟩
        clear ho ho2 kk
        simp only [Act.put, List.setIfInBounds_toArray, List.set_cons_zero, List.set_cons_succ]
        refine held_store (i := 5) (o := ⟨none, Op.store 30 (.tmp 3) (.tmp 17), _, _, _, none⟩) (by kernel_rfl) rfl rfl rfl rfl rfl (store_box _ _ _ _ X.out.b5 (bdC_size _)) (X.out.p5 (cs' := bdC (b.at p F.length c)) rfl).g4 ?_
        simp only [Act.put]
        replace X := Lib.hid (X.out.p5 (cs' := bdC (b.at p F.length c)) rfl)
        replace hS := X.out.g4
        refine held_store (i := 6) (o := ⟨none, Op.store 49 (.tmp 10) (.tmp 19), _, _, _, none⟩) (by kernel_rfl) rfl rfl rfl rfl rfl (ram_store X.out.g0 rfl) (X.out.p0 (cs' := ramC (.slice p2 D.length c2) (.slice q2 M.length d2) E) rfl).g4 ?_
        simp only [Act.put]
        replace X := Lib.hid (X.out.p0 (cs' := ramC (.slice p2 D.length c2) (.slice q2 M.length d2) E) rfl)
        refine wpAnyH_done (by kernel_rfl) ?_ _
        go_wp2_with fail
        go_meet
        exact ⟨_, p, c, p2, c2, q2, d2, rfl, X⟩
      refine cons_op (i := 4) (o := ⟨some 10, Op.alloc 49, _, _, _, _⟩) (w' := wz.alloc ramZO) (v := .pointer (some ⟨wz.heap.size, 0, none⟩)) rfl rfl (by go_simp) X.out.newR.g4 ?_ AllReadyH.nil
      simp only [Act.put, List.setIfInBounds_toArray, List.set_cons_zero, List.set_cons_succ]
      replace X := Lib.hid X.out.newR
      have hS := X.out.g4
      generalize hz : wz.heap.size = z at X ⊢
      clear hz
      generalize wz.alloc ramZO = wn at X hS ⊢
      refine held_calls (i := 1) (o := ⟨some 17, Op.call { callee := .value (.func 20), args := #[.tmp 16], argTypes := #[30] }, _, _, _, _⟩) (by kernel_rfl) rfl (by kernel_rfl) (by go_simp) (calls_copied (copy_bd b F _ (HFR.out _ X.out.below) HSZ.out.1)) ?_
      rintro v' w' ⟨p, c, hv', ho, kk⟩
      subst hv'
      replace X := Lib.hid ((X.out.next kk).addrow ho X.out.below.size (by decide))
      refine ⟨X.out.g4, fun hS => ?_⟩
      clear ho kk
      simp only [Act.put, List.setIfInBounds_toArray, List.set_cons_zero, List.set_cons_succ]
      refine held_calls (i := 3) (o := ⟨some 19, Op.call { callee := .value (.func 33), args := #[.tmp 18], argTypes := #[49] }, _, _, _, _⟩) (by kernel_rfl) rfl (by kernel_rfl) (by go_simp) (calls_mem (copy_any _ _ E D M _ (HDD.out _ X.out.below) (HMM.out _ X.out.below) HSZ.out.2.1 HSZ.out.2.2)) ?_
      rintro v' w' ⟨p2, c2, q2, d2, hv', ho, ho2, kk⟩
      subst hv'
      replace X := Lib.hid (((X.out.next kk).addrow ho X.out.below.size (by decide)).addrow ho2 X.out.below.size (by decide))
      refine ⟨X.out.g4, fun hS => ?_⟩
      clear ho ho2 kk
      simp only [Act.put, List.setIfInBounds_toArray, List.set_cons_zero, List.set_cons_succ]
      refine held_store (i := 5) (o := ⟨none, Op.store 30 (.tmp 3) (.tmp 17), _, _, _, none⟩) (by kernel_rfl) rfl rfl rfl rfl rfl (store_box _ _ _ _ X.out.b5 (bdC_size _)) (X.out.p5 (cs' := bdC (b.at p F.length c)) rfl).g4 ?_
      simp only [Act.put]
      replace X := Lib.hid (X.out.p5 (cs' := bdC (b.at p F.length c)) rfl)
      replace hS := X.out.g4
      refine held_store (i := 6) (o := ⟨none, Op.store 49 (.tmp 10) (.tmp 19), _, _, _, none⟩) (by kernel_rfl) rfl rfl rfl rfl rfl (ram_store X.out.g0 rfl) (X.out.p0 (cs' := ramC (.slice p2 D.length c2) (.slice q2 M.length d2) E) rfl).g4 ?_
      simp only [Act.put]
      replace X := Lib.hid (X.out.p0 (cs' := ramC (.slice p2 D.length c2) (.slice q2 M.length d2) E) rfl)
      refine wpAnyH_done (by kernel_rfl) ?_ _
      go_wp2_with fail
      go_meet
      exact ⟨_, p, c, p2, c2, q2, d2, rfl, X⟩
    refine cons_op (i := 4) (o := ⟨some 10, Op.alloc 49, _, _, _, _⟩) (w' := wz.alloc ramZO) (v := .pointer (some ⟨wz.heap.size, 0, none⟩)) rfl rfl (by go_simp) X.out.newR.g4 ?_ AllReadyH.nil
    simp only [Act.put, List.setIfInBounds_toArray, List.set_cons_zero, List.set_cons_succ]
    replace X := Lib.hid X.out.newR
    have hS := X.out.g4
    generalize hz : wz.heap.size = z at X ⊢
    clear hz
    generalize wz.alloc ramZO = wn at X hS ⊢
    refine held_op (i := 0) (o := ⟨some 16, Op.load 30 (.tmp 3), _, _, _, _⟩) (w' := _) (by kernel_rfl) rfl rfl (exec_load rfl (Box.load X.out.b5) rfl) hS ?_
    simp only [Act.put, List.setIfInBounds_toArray, List.set_cons_zero, List.set_cons_succ]
    refine held_calls (i := 1) (o := ⟨some 17, Op.call { callee := .value (.func 20), args := #[.tmp 16], argTypes := #[30] }, _, _, _, _⟩) (by kernel_rfl) rfl (by kernel_rfl) (by go_simp) (calls_copied (copy_bd b F _ (HFR.out _ X.out.below) HSZ.out.1)) ?_
    rintro v' w' ⟨p, c, hv', ho, kk⟩
    subst hv'
    replace X := Lib.hid ((X.out.next kk).addrow ho X.out.below.size (by decide))
    refine ⟨X.out.g4, fun hS => ?_⟩
    clear ho kk
    simp only [Act.put, List.setIfInBounds_toArray, List.set_cons_zero, List.set_cons_succ]
    refine held_calls (i := 3) (o := ⟨some 19, Op.call { callee := .value (.func 33), args := #[.tmp 18], argTypes := #[49] }, _, _, _, _⟩) (by kernel_rfl) rfl (by kernel_rfl) (by go_simp) (calls_mem (copy_any _ _ E D M _ (HDD.out _ X.out.below) (HMM.out _ X.out.below) HSZ.out.2.1 HSZ.out.2.2)) ?_
    rintro v' w' ⟨p2, c2, q2, d2, hv', ho, ho2, kk⟩
    subst hv'
    replace X := Lib.hid (((X.out.next kk).addrow ho X.out.below.size (by decide)).addrow ho2 X.out.below.size (by decide))
    refine ⟨X.out.g4, fun hS => ?_⟩
    clear ho ho2 kk
    simp only [Act.put, List.setIfInBounds_toArray, List.set_cons_zero, List.set_cons_succ]
    refine held_store (i := 5) (o := ⟨none, Op.store 30 (.tmp 3) (.tmp 17), _, _, _, none⟩) (by kernel_rfl) rfl rfl rfl rfl rfl (store_box _ _ _ _ X.out.b5 (bdC_size _)) (X.out.p5 (cs' := bdC (b.at p F.length c)) rfl).g4 ?_
    simp only [Act.put]
    replace X := Lib.hid (X.out.p5 (cs' := bdC (b.at p F.length c)) rfl)
    replace hS := X.out.g4
    refine held_store (i := 6) (o := ⟨none, Op.store 49 (.tmp 10) (.tmp 19), _, _, _, none⟩) (by kernel_rfl) rfl rfl rfl rfl rfl (ram_store X.out.g0 rfl) (X.out.p0 (cs' := ramC (.slice p2 D.length c2) (.slice q2 M.length d2) E) rfl).g4 ?_
    simp only [Act.put]
    replace X := Lib.hid (X.out.p0 (cs' := ramC (.slice p2 D.length c2) (.slice q2 M.length d2) E) rfl)
    refine wpAnyH_done (by kernel_rfl) ?_ _
    go_wp2_with fail
    go_meet
    exact ⟨_, p, c, p2, c2, q2, d2, rfl, X⟩
  case rest =>
    clear X HFR HDD HMM HSZ
    obtain ⟨z, p, c, p2, c2, q2, d2, rfl, X⟩ := hcut
    have m_k : wc.cell? ⟨W.heap.size + 1 + 1, 0, none⟩ = some (.int .i64 4) := cell_of_row _ _ 0 _ 42 (0, 0) X.out.g3
    have m_s : wc.cell? ⟨W.heap.size + 1 + 1, 1, none⟩ = some (.string es) := cell_of_row _ _ 1 _ 42 (0, 0) X.out.g3
    go_upto_region 16 with (fail)
    clear m_k m_s
    refine wp_region_held (S := fun w => Box w W.heap.size (b.at p F.length c)) (by kernel_rfl) ?_
    have hdr : { wc with drawn := wc.drawn + 1 } = wc.drew := rfl
    rw [hdr]
    clear hdr
    replace X := Lib.hid (X.out.next (Below.refl _ _).drew)
    generalize wc.drew = wz at X ⊢
    have hS : Box wz W.heap.size (b.at p F.length c) := X.out.b5
    refine wpAnyH_take (i := 0) (oi := ⟨some 86, Op.fieldAddr 30 (.tmp 3) 9, _, _, _, _⟩) (v := ?_) rfl (by kernel_rfl) (by kernel_rfl) (by kernel_rfl) (fun _ _ _ h => h) (Or.inl ⟨by rfl, ?_⟩) hS ?_
    rotate_left
    · (intro w hSw; (try dsimp only at hSw); go_simp; try with_reducible rfl)
    simp only [Act.put, List.setIfInBounds_toArray, List.set_cons_zero, List.set_cons_succ]
    refine wpAnyH_take (i := 1) (oi := ⟨some 87, Op.load 23 (.tmp 86), _, _, _, _⟩) (v := _) rfl (by kernel_rfl) (by kernel_rfl) (by kernel_rfl) (fun _ _ _ h => h) (yields_load rfl rfl rfl (fun w hw => Box.rd_fr hw)) hS ?_
    simp only [Act.put, List.setIfInBounds_toArray, List.set_cons_zero, List.set_cons_succ]
    refine wpAnyH_take (i := 2) (oi := ⟨some 88, Op.call { callee := .builtin .len, args := #[.tmp 87], argTypes := #[23] }, _, _, _, _⟩) (v := ?_) rfl (by kernel_rfl) (by kernel_rfl) (by kernel_rfl) (fun _ _ _ h => h) (Or.inl ⟨by rfl, ?_⟩) hS ?_
    rotate_left
    · (intro w hSw; (try dsimp only at hSw); go_simp; try with_reducible rfl)
    simp only [Act.put, List.setIfInBounds_toArray, List.set_cons_zero, List.set_cons_succ]
    refine wpAnyH_take (i := 3) (oi := ⟨some 89, Op.binOp .gtr 3 (.tmp 88) (.const (.int .i64 0)) 3, _, _, _, _⟩) (v := ?_) rfl (by kernel_rfl) (by kernel_rfl) (by kernel_rfl) (fun _ _ _ h => h) (Or.inl ⟨by rfl, ?_⟩) hS ?_
    rotate_left
    · (intro w hSw; (try dsimp only at hSw); go_simp; try with_reducible rfl)
    simp only [Act.put, List.setIfInBounds_toArray, List.set_cons_zero, List.set_cons_succ]
    refine wpAnyH_take (i := 4) (oi := ⟨some 90, Op.move (.tmp 89), _, _, _, _⟩) (v := ?_) rfl (by kernel_rfl) (by kernel_rfl) (by kernel_rfl) (fun _ _ _ h => h) (Or.inl ⟨by rfl, ?_⟩) hS ?_
    rotate_left
    · (intro w hSw; (try dsimp only at hSw); go_simp; try with_reducible rfl)
    simp only [Act.put, List.setIfInBounds_toArray, List.set_cons_zero, List.set_cons_succ]
    refine wpAnyH_take (i := 5) (oi := ⟨some 91, Op.fieldAddr 30 (.tmp 3) 10, _, _, _, _⟩) (v := undef) rfl (by kernel_rfl) (by kernel_rfl) (by kernel_rfl) (fun _ _ _ h => h) (Or.inr ⟨by rfl, rfl⟩) hS ?_
    simp only [Act.put, List.setIfInBounds_toArray, List.set_cons_zero, List.set_cons_succ]
    refine wpAnyH_take (i := 6) (oi := ⟨some 92, Op.load 22 (.tmp 91), _, _, _, _⟩) (v := undef) rfl (by kernel_rfl) (by kernel_rfl) (by kernel_rfl) (fun _ _ _ h => h) (Or.inr ⟨by rfl, rfl⟩) hS ?_
    simp only [Act.put, List.setIfInBounds_toArray, List.set_cons_zero, List.set_cons_succ]
    refine wpAnyH_take (i := 7) (oi := ⟨some 93, Op.fieldAddr 30 (.tmp 3) 9, _, _, _, _⟩) (v := undef) rfl (by kernel_rfl) (by kernel_rfl) (by kernel_rfl) (fun _ _ _ h => h) (Or.inr ⟨by rfl, rfl⟩) hS ?_
    simp only [Act.put, List.setIfInBounds_toArray, List.set_cons_zero, List.set_cons_succ]
    refine wpAnyH_take (i := 8) (oi := ⟨some 94, Op.load 23 (.tmp 93), _, _, _, _⟩) (v := undef) rfl (by kernel_rfl) (by kernel_rfl) (by kernel_rfl) (fun _ _ _ h => h) (Or.inr ⟨by rfl, rfl⟩) hS ?_
    simp only [Act.put, List.setIfInBounds_toArray, List.set_cons_zero, List.set_cons_succ]
    refine wpAnyH_take (i := 9) (oi := ⟨some 95, Op.indexAddr 23 (.tmp 94) (.const (.int .i64 0)), _, _, _, _⟩) (v := undef) rfl (by kernel_rfl) (by kernel_rfl) (by kernel_rfl) (fun _ _ _ h => h) (Or.inr ⟨by rfl, rfl⟩) hS ?_
    simp only [Act.put, List.setIfInBounds_toArray, List.set_cons_zero, List.set_cons_succ]
    refine wpAnyH_take (i := 10) (oi := ⟨some 96, Op.load 9 (.tmp 95), _, _, _, _⟩) (v := undef) rfl (by kernel_rfl) (by kernel_rfl) (by kernel_rfl) (fun _ _ _ h => h) (Or.inr ⟨by rfl, rfl⟩) hS ?_
    simp only [Act.put, List.setIfInBounds_toArray, List.set_cons_zero, List.set_cons_succ]
    refine wpAnyH_take (i := 11) (oi := ⟨some 97, Op.call { callee := .value (.func 34), args := #[.tmp 10, .tmp 92, .tmp 96], argTypes := #[70, 22, 9] }, _, _, _, _⟩) (v := undef) rfl (by kernel_rfl) (by kernel_rfl) (by kernel_rfl) (fun _ _ _ h => h) (Or.inr ⟨by rfl, rfl⟩) hS ?_
    simp only [Act.put, List.setIfInBounds_toArray, List.set_cons_zero, List.set_cons_succ]
    refine wpAnyH_take (i := 12) (oi := ⟨some 98, Op.pick (.tmp 90) (.tmp 97) (.const (.bool false)), _, _, _, _⟩) (v := ?_) rfl (by kernel_rfl) (by kernel_rfl) (by kernel_rfl) (fun _ _ _ h => h) (Or.inl ⟨by rfl, ?_⟩) hS ?_
    rotate_left
    · (intro w hSw; (try dsimp only at hSw); go_simp; try with_reducible rfl)
    simp only [Act.put, List.setIfInBounds_toArray, List.set_cons_zero, List.set_cons_succ]
    refine wpAnyH_done (by kernel_rfl) ?_ _
    go_upto_region 21 with (fail)
    refine wp_region_held (S := fun w => Box w W.heap.size (b.at p F.length c) ∧ w.heap[z]? = some (.cells (ramC (.slice p2 D.length c2) (.slice q2 M.length d2) E) 49 (0, 0))) (by kernel_rfl) ?_
    have hdr : { wz with drawn := wz.drawn + 1 } = wz.drew := rfl
    rw [hdr]
    clear hdr
    replace X := Lib.hid (X.out.next (Below.refl _ _).drew)
    generalize wz.drew = wz at X ⊢
    have hS : Box wz W.heap.size (b.at p F.length c) ∧ wz.heap[z]? = some (.cells (ramC (.slice p2 D.length c2) (.slice q2 M.length d2) E) 49 (0, 0)) := ⟨X.out.b5, X.out.g0⟩
    refine wpAnyH_take (i := 0) (oi := ⟨some 115, Op.load 30 (.tmp 3), _, _, _, none⟩) (v := _) rfl (by kernel_rfl) (by kernel_rfl) (by kernel_rfl) (fun _ _ _ h => h) (yields_load rfl rfl rfl (fun w hw => hw.1.load)) hS ?_
    simp only [Act.put, List.setIfInBounds_toArray, List.set_cons_zero, List.set_cons_succ]
    refine wpAnyH_take (i := 1) (oi := ⟨some 116, Op.load 49 (.tmp 10), _, _, _, none⟩) (v := _) rfl (by kernel_rfl) (by kernel_rfl) (by kernel_rfl) (fun _ _ _ h => h) (yields_load rfl rfl rfl (fun w hw => ram_load hw.2)) hS ?_
    simp only [Act.put, List.setIfInBounds_toArray, List.set_cons_zero, List.set_cons_succ]
    refine held_store (i := 2) (o := ⟨none, Op.store 30 (.tmp 6) (.tmp 115), _, _, _, none⟩) (by kernel_rfl) rfl rfl rfl rfl rfl (store_box _ _ _ _ X.out.b2 (bdC_size _)) (⟨(X.out.p2 (cs' := bdC (b.at p F.length c)) rfl).b5, (X.out.p2 (cs' := bdC (b.at p F.length c)) rfl).g0⟩) ?_
    simp only [Act.put]
    replace X := Lib.hid (X.out.p2 (cs' := bdC (b.at p F.length c)) rfl)
    refine held_store (i := 3) (o := ⟨none, Op.store 49 (.tmp 7) (.tmp 116), _, _, _, none⟩) (by kernel_rfl) rfl rfl rfl rfl rfl (ram_store X.out.g1 rfl) (⟨(X.out.p1 (cs' := (ramC (.slice p2 D.length c2) (.slice q2 M.length d2) E)) rfl).b5, (X.out.p1 (cs' := (ramC (.slice p2 D.length c2) (.slice q2 M.length d2) E)) rfl).g0⟩) ?_
    simp only [Act.put]
    replace X := Lib.hid (X.out.p1 (cs' := (ramC (.slice p2 D.length c2) (.slice q2 M.length d2) E)) rfl)
    replace hS := And.intro X.out.b5 X.out.g0
    refine wpAnyH_take (i := 4) (oi := ⟨some 8, Op.assign (.const (.string ⟨#[]⟩)), _, _, _, none⟩) (v := ?_) rfl (by kernel_rfl) (by kernel_rfl) (by kernel_rfl) (fun _ _ _ h => h) (Or.inl ⟨by rfl, ?_⟩) hS ?_
    rotate_left
    · (intro w hSw; (try dsimp only at hSw); go_simp; try with_reducible rfl)
    simp only [Act.put, List.setIfInBounds_toArray, List.set_cons_zero, List.set_cons_succ]
    refine wpAnyH_take (i := 5) (oi := ⟨some 9, Op.assign (.const (.bool false)), _, _, _, none⟩) (v := ?_) rfl (by kernel_rfl) (by kernel_rfl) (by kernel_rfl) (fun _ _ _ h => h) (Or.inl ⟨by rfl, ?_⟩) hS ?_
    rotate_left
    · (intro w hSw; (try dsimp only at hSw); go_simp; try with_reducible rfl)
    simp only [Act.put, List.setIfInBounds_toArray, List.set_cons_zero, List.set_cons_succ]
    refine wpAnyH_done (by kernel_rfl) ?_ _
    go_wp2_with fail
    exact bodyPost_ret (v := .tuple #[bdV (b.at p F.length c), .agg (ramC (.slice p2 D.length c2) (.slice q2 M.length d2) E), .string (⟨#[]⟩), .bool false]) (results_act Try.results21 _ _ (W.heap.size + 1 + 1 + 1) (W.heap.size + 1 + 1 + 1 + 1) _ _ _ _ _ _ rfl X.out.b2 rfl X.out.g1 rfl rfl) rfl ⟨p, c, _, _, rfl, FAt.of X.out.r2, reads_of_owns X.out.r1, reads_of_owns X.out.r0, X.out.below⟩
set_option maxRecDepth 100000 in
set_option maxHeartbeats 2000000 in
theorem act_recv1 (b : Bd) (F : List ByteArray) (p1 q1 : Option Addr) (c1 d1 : Nat) (E : Int) (es : ByteArray) (D : List UInt8) (M : List Int)  (W : World) (hf : FAt W (.slice b.fp b.fn b.fc) F) (hF : F.length ≤ 8796093022208) (hd : DAt W (.slice p1 D.length c1) D) (hm : MAt W (.slice q1 M.length d1) M) (hD : D.length ≤ 140737488351232) (hM : M.length ≤ 17592186043904)(h0 : 0 < F.length) (ha : 0 ≤ b.nicA ∧ b.nicA ≤ 18446744073709551615) (hz : F[0].size ≤ 9223372036854775807) (hk : putB D.length b.nicA F[0] = false) : Calls Try.prog 21 #[bdV b, .agg (ramC (.slice p1 D.length c1) (.slice q1 M.length d1) E), .agg #[.int .i64 4, .string es]] W (Acted W (b) (F) E (putD D b.nicA F[0]) (putM D.length M E b.nicA F[0]) (⟨#[]⟩) (false)) := by
  have HFR := Lib.hid (fun W' (h : Below W.heap.size W W') => hf.next h)
  have HDD := Lib.hid (fun W' (h : Below W.heap.size W W') => hd.below h)
  have HMM := Lib.hid (fun W' (h : Below W.heap.size W W') => hm.below h)
  have HSZ := Lib.hid (And.intro hF (And.intro hD hM))
  clear hf hF hd hm hD hM
  have g0 : decide (0 < F.length) = true := decide_eq_true h0
  obtain ⟨f0, hf0⟩ : ∃ x, F[0] = x := ⟨_, rfl⟩
  rw [hf0] at hz hk ⊢
  have HF0 := Lib.hid hf0
  have HA := Lib.hid (And.intro ha (And.intro hz hk))
  clear ha hz hk hf0
  go_enter Try.func21, Try.ntmps21
  have X := Lib.hid (act_start W b p1 q1 D.length M.length c1 d1 E 4 es)
  go_upto_region 1 with (fail)
  generalize ((((W.alloc (bdO b)).alloc (.cells (ramC (.slice p1 D.length c1) (.slice q1 M.length d1) E) 49)).alloc (.cells #[.int .i64 4, .string es] 42)).alloc zeroO).alloc ramZO = wr at X ⊢
  go_cut [10] (fun s10 wx => ∃ (z : Nat) (p : Option Addr) (c : Nat) (p2 : Option Addr) (c2 : Nat) (q2 : Option Addr) (d2 : Nat), s10 = .pointer (some ⟨z, 0, none⟩) ∧ RowKit.Hid (Mem W wx [(z, ramC (.slice p2 D.length c2) (.slice q2 M.length d2) E, 49), (W.heap.size + 1 + 1 + 1 + 1, ramZC, 49), (W.heap.size + 1 + 1 + 1, bdC bdZ, 30), (W.heap.size + 1 + 1, #[.int .i64 4, .string es], 42), (W.heap.size + 1, (ramC (.slice p1 D.length c1) (.slice q1 M.length d1) E), 49), (W.heap.size, bdC (b.at p F.length c), 30)] [(22, .slice q2 M.length d2, M.length, mC M), (5, .slice p2 D.length c2, D.length, dC D), (9, .slice p F.length c, F.length, sC F)]))
  case first =>
    refine wp_region_held (S := fun w => w.heap[W.heap.size + 1]? = some (.cells (ramC (.slice p1 D.length c1) (.slice q1 M.length d1) E) 49 (0, 0))) (by kernel_rfl) ?_
    have hdr : { wr with drawn := wr.drawn + 1 } = wr.drew := rfl
    rw [hdr]
    clear hdr
    replace X := Lib.hid (X.out.next (Below.refl _ _).drew)
    generalize wr.drew = wz at X ⊢
    have hS : wz.heap[W.heap.size + 1]? = some (.cells (ramC (.slice p1 D.length c1) (.slice q1 M.length d1) E) 49 (0, 0)) := X.out.g3
    refine wpAnyH_take (i := 2) (oi := ⟨some 18, Op.load 49 (.tmp 4), _, _, _, none⟩) (v := _) rfl (by kernel_rfl) (by kernel_rfl) (by kernel_rfl) (fun _ _ _ h => h) (yields_load rfl rfl rfl (fun w hw => ram_load hw)) hS ?_
    simp only [Act.put, List.setIfInBounds_toArray, List.set_cons_zero, List.set_cons_succ]
    refine wpAnyH_ready (rs := [0, 4]) (by kernel_rfl) (by simp) ?_
    refine cons_op (i := 0) (o := ⟨some 16, Op.load 30 (.tmp 3), _, _, _, _⟩) (w' := _) rfl rfl (exec_load rfl (Box.load X.out.b4) rfl) hS ?_ ?_
    · simp only [Act.put, List.setIfInBounds_toArray, List.set_cons_zero, List.set_cons_succ]
      refine wpAnyH_ready (rs := [1, 4]) (by kernel_rfl) (by simp) ?_
      refine cons_calls (i := 1) (o := ⟨some 17, Op.call { callee := .value (.func 20), args := #[.tmp 16], argTypes := #[30] }, _, _, _, _⟩) rfl (by kernel_rfl) (by go_simp) (calls_copied (copy_bd b F _ (HFR.out _ X.out.below) HSZ.out.1)) ?_ ?_
      · rintro v' w' ⟨p, c, hv', ho, kk⟩
        subst hv'
        replace X := Lib.hid ((X.out.next kk).addrow ho X.out.below.size (by decide))
        refine ⟨X.out.g3, fun hS => ?_⟩
        clear ho kk
        simp only [Act.put, List.setIfInBounds_toArray, List.set_cons_zero, List.set_cons_succ]
        refine wpAnyH_ready (rs := [3, 4]) (by kernel_rfl) (by simp) ?_
        refine cons_calls (i := 3) (o := ⟨some 19, Op.call { callee := .value (.func 33), args := #[.tmp 18], argTypes := #[49] }, _, _, _, _⟩) rfl (by kernel_rfl) (by go_simp) (calls_mem (copy_any _ _ E D M _ (HDD.out _ X.out.below) (HMM.out _ X.out.below) HSZ.out.2.1 HSZ.out.2.2)) ?_ ?_
        · rintro v' w' ⟨p2, c2, q2, d2, hv', ho, ho2, kk⟩
          subst hv'
          replace X := Lib.hid (((X.out.next kk).addrow ho X.out.below.size (by decide)).addrow ho2 X.out.below.size (by decide))
          refine ⟨X.out.g3, fun hS => ?_⟩
          clear ho ho2 kk
          simp only [Act.put, List.setIfInBounds_toArray, List.set_cons_zero, List.set_cons_succ]
          refine held_op (i := 4) (o := ⟨some 10, Op.alloc 49, _, _, _, _⟩) (w' := w'.alloc ramZO) (v := .pointer (some ⟨w'.heap.size, 0, none⟩)) (by kernel_rfl) rfl rfl (by go_simp) X.out.newR.g4 ?_
          simp only [Act.put, List.setIfInBounds_toArray, List.set_cons_zero, List.set_cons_succ]
          replace X := Lib.hid X.out.newR
          have hS := X.out.g4
          generalize hz : w'.heap.size = z at X ⊢
          clear hz
          generalize w'.alloc ramZO = wn at X hS ⊢
          refine held_store (i := 5) (o := ⟨none, Op.store 30 (.tmp 3) (.tmp 17), _, _, _, none⟩) (by kernel_rfl) rfl rfl rfl rfl rfl (store_box _ _ _ _ X.out.b5 (bdC_size _)) (X.out.p5 (cs' := bdC (b.at p F.length c)) rfl).g4 ?_
          simp only [Act.put]
          replace X := Lib.hid (X.out.p5 (cs' := bdC (b.at p F.length c)) rfl)
          replace hS := X.out.g4
          refine held_store (i := 6) (o := ⟨none, Op.store 49 (.tmp 10) (.tmp 19), _, _, _, none⟩) (by kernel_rfl) rfl rfl rfl rfl rfl (ram_store X.out.g0 rfl) (X.out.p0 (cs' := ramC (.slice p2 D.length c2) (.slice q2 M.length d2) E) rfl).g4 ?_
          simp only [Act.put]
          replace X := Lib.hid (X.out.p0 (cs' := ramC (.slice p2 D.length c2) (.slice q2 M.length d2) E) rfl)
          refine wpAnyH_done (by kernel_rfl) ?_ _
          go_wp2_with fail
          go_meet
          exact ⟨_, p, c, p2, c2, q2, d2, rfl, X⟩
        refine cons_op (i := 4) (o := ⟨some 10, Op.alloc 49, _, _, _, _⟩) (w' := w'.alloc ramZO) (v := .pointer (some ⟨w'.heap.size, 0, none⟩)) rfl rfl (by go_simp) X.out.newR.g4 ?_ AllReadyH.nil
        simp only [Act.put, List.setIfInBounds_toArray, List.set_cons_zero, List.set_cons_succ]
        replace X := Lib.hid X.out.newR
        have hS := X.out.g4
        generalize hz : w'.heap.size = z at X ⊢
        clear hz
        generalize w'.alloc ramZO = wn at X hS ⊢
        refine held_calls (i := 3) (o := ⟨some 19, Op.call { callee := .value (.func 33), args := #[.tmp 18], argTypes := #[49] }, _, _, _, _⟩) (by kernel_rfl) rfl (by kernel_rfl) (by go_simp) (calls_mem (copy_any _ _ E D M _ (HDD.out _ X.out.below) (HMM.out _ X.out.below) HSZ.out.2.1 HSZ.out.2.2)) ?_
        rintro v' w' ⟨p2, c2, q2, d2, hv', ho, ho2, kk⟩
        subst hv'
        replace X := Lib.hid (((X.out.next kk).addrow ho X.out.below.size (by decide)).addrow ho2 X.out.below.size (by decide))
        refine ⟨X.out.g4, fun hS => ?_⟩
        clear ho ho2 kk
        simp only [Act.put, List.setIfInBounds_toArray, List.set_cons_zero, List.set_cons_succ]
        refine held_store (i := 5) (o := ⟨none, Op.store 30 (.tmp 3) (.tmp 17), _, _, _, none⟩) (by kernel_rfl) rfl rfl rfl rfl rfl (store_box _ _ _ _ X.out.b5 (bdC_size _)) (X.out.p5 (cs' := bdC (b.at p F.length c)) rfl).g4 ?_
        simp only [Act.put]
        replace X := Lib.hid (X.out.p5 (cs' := bdC (b.at p F.length c)) rfl)
        replace hS := X.out.g4
        refine held_store (i := 6) (o := ⟨none, Op.store 49 (.tmp 10) (.tmp 19), _, _, _, none⟩) (by kernel_rfl) rfl rfl rfl rfl rfl (ram_store X.out.g0 rfl) (X.out.p0 (cs' := ramC (.slice p2 D.length c2) (.slice q2 M.length d2) E) rfl).g4 ?_
        simp only [Act.put]
        replace X := Lib.hid (X.out.p0 (cs' := ramC (.slice p2 D.length c2) (.slice q2 M.length d2) E) rfl)
        refine wpAnyH_done (by kernel_rfl) ?_ _
        go_wp2_with fail
        go_meet
        exact ⟨_, p, c, p2, c2, q2, d2, rfl, X⟩
      refine cons_op (i := 4) (o := ⟨some 10, Op.alloc 49, _, _, _, _⟩) (w' := wz.alloc ramZO) (v := .pointer (some ⟨wz.heap.size, 0, none⟩)) rfl rfl (by go_simp) X.out.newR.g4 ?_ AllReadyH.nil
      simp only [Act.put, List.setIfInBounds_toArray, List.set_cons_zero, List.set_cons_succ]
      replace X := Lib.hid X.out.newR
      have hS := X.out.g4
      generalize hz : wz.heap.size = z at X ⊢
      clear hz
      generalize wz.alloc ramZO = wn at X hS ⊢
      refine held_calls (i := 1) (o := ⟨some 17, Op.call { callee := .value (.func 20), args := #[.tmp 16], argTypes := #[30] }, _, _, _, _⟩) (by kernel_rfl) rfl (by kernel_rfl) (by go_simp) (calls_copied (copy_bd b F _ (HFR.out _ X.out.below) HSZ.out.1)) ?_
      rintro v' w' ⟨p, c, hv', ho, kk⟩
      subst hv'
      replace X := Lib.hid ((X.out.next kk).addrow ho X.out.below.size (by decide))
      refine ⟨X.out.g4, fun hS => ?_⟩
      clear ho kk
      simp only [Act.put, List.setIfInBounds_toArray, List.set_cons_zero, List.set_cons_succ]
      refine held_calls (i := 3) (o := ⟨some 19, Op.call { callee := .value (.func 33), args := #[.tmp 18], argTypes := #[49] }, _, _, _, _⟩) (by kernel_rfl) rfl (by kernel_rfl) (by go_simp) (calls_mem (copy_any _ _ E D M _ (HDD.out _ X.out.below) (HMM.out _ X.out.below) HSZ.out.2.1 HSZ.out.2.2)) ?_
      rintro v' w' ⟨p2, c2, q2, d2, hv', ho, ho2, kk⟩
      subst hv'
      replace X := Lib.hid (((X.out.next kk).addrow ho X.out.below.size (by decide)).addrow ho2 X.out.below.size (by decide))
      refine ⟨X.out.g4, fun hS => ?_⟩
      clear ho ho2 kk
      simp only [Act.put, List.setIfInBounds_toArray, List.set_cons_zero, List.set_cons_succ]
      refine held_store (i := 5) (o := ⟨none, Op.store 30 (.tmp 3) (.tmp 17), _, _, _, none⟩) (by kernel_rfl) rfl rfl rfl rfl rfl (store_box _ _ _ _ X.out.b5 (bdC_size _)) (X.out.p5 (cs' := bdC (b.at p F.length c)) rfl).g4 ?_
      simp only [Act.put]
      replace X := Lib.hid (X.out.p5 (cs' := bdC (b.at p F.length c)) rfl)
      replace hS := X.out.g4
      refine held_store (i := 6) (o := ⟨none, Op.store 49 (.tmp 10) (.tmp 19), _, _, _, none⟩) (by kernel_rfl) rfl rfl rfl rfl rfl (ram_store X.out.g0 rfl) (X.out.p0 (cs' := ramC (.slice p2 D.length c2) (.slice q2 M.length d2) E) rfl).g4 ?_
      simp only [Act.put]
      replace X := Lib.hid (X.out.p0 (cs' := ramC (.slice p2 D.length c2) (.slice q2 M.length d2) E) rfl)
      refine wpAnyH_done (by kernel_rfl) ?_ _
      go_wp2_with fail
      go_meet
      exact ⟨_, p, c, p2, c2, q2, d2, rfl, X⟩
    refine cons_op (i := 4) (o := ⟨some 10, Op.alloc 49, _, _, _, _⟩) (w' := wz.alloc ramZO) (v := .pointer (some ⟨wz.heap.size, 0, none⟩)) rfl rfl (by go_simp) X.out.newR.g4 ?_ AllReadyH.nil
    simp only [Act.put, List.setIfInBounds_toArray, List.set_cons_zero, List.set_cons_succ]
    replace X := Lib.hid X.out.newR
    have hS := X.out.g4
    generalize hz : wz.heap.size = z at X ⊢
    clear hz
    generalize wz.alloc ramZO = wn at X hS ⊢
    refine held_op (i := 0) (o := ⟨some 16, Op.load 30 (.tmp 3), _, _, _, _⟩) (w' := _) (by kernel_rfl) rfl rfl (exec_load rfl (Box.load X.out.b5) rfl) hS ?_
    simp only [Act.put, List.setIfInBounds_toArray, List.set_cons_zero, List.set_cons_succ]
    refine held_calls (i := 1) (o := ⟨some 17, Op.call { callee := .value (.func 20), args := #[.tmp 16], argTypes := #[30] }, _, _, _, _⟩) (by kernel_rfl) rfl (by kernel_rfl) (by go_simp) (calls_copied (copy_bd b F _ (HFR.out _ X.out.below) HSZ.out.1)) ?_
    rintro v' w' ⟨p, c, hv', ho, kk⟩
    subst hv'
    replace X := Lib.hid ((X.out.next kk).addrow ho X.out.below.size (by decide))
    refine ⟨X.out.g4, fun hS => ?_⟩
    clear ho kk
    simp only [Act.put, List.setIfInBounds_toArray, List.set_cons_zero, List.set_cons_succ]
    refine held_calls (i := 3) (o := ⟨some 19, Op.call { callee := .value (.func 33), args := #[.tmp 18], argTypes := #[49] }, _, _, _, _⟩) (by kernel_rfl) rfl (by kernel_rfl) (by go_simp) (calls_mem (copy_any _ _ E D M _ (HDD.out _ X.out.below) (HMM.out _ X.out.below) HSZ.out.2.1 HSZ.out.2.2)) ?_
    rintro v' w' ⟨p2, c2, q2, d2, hv', ho, ho2, kk⟩
    subst hv'
    replace X := Lib.hid (((X.out.next kk).addrow ho X.out.below.size (by decide)).addrow ho2 X.out.below.size (by decide))
    refine ⟨X.out.g4, fun hS => ?_⟩
    clear ho ho2 kk
    simp only [Act.put, List.setIfInBounds_toArray, List.set_cons_zero, List.set_cons_succ]
    refine held_store (i := 5) (o := ⟨none, Op.store 30 (.tmp 3) (.tmp 17), _, _, _, none⟩) (by kernel_rfl) rfl rfl rfl rfl rfl (store_box _ _ _ _ X.out.b5 (bdC_size _)) (X.out.p5 (cs' := bdC (b.at p F.length c)) rfl).g4 ?_
    simp only [Act.put]
    replace X := Lib.hid (X.out.p5 (cs' := bdC (b.at p F.length c)) rfl)
    replace hS := X.out.g4
    refine held_store (i := 6) (o := ⟨none, Op.store 49 (.tmp 10) (.tmp 19), _, _, _, none⟩) (by kernel_rfl) rfl rfl rfl rfl rfl (ram_store X.out.g0 rfl) (X.out.p0 (cs' := ramC (.slice p2 D.length c2) (.slice q2 M.length d2) E) rfl).g4 ?_
    simp only [Act.put]
    replace X := Lib.hid (X.out.p0 (cs' := ramC (.slice p2 D.length c2) (.slice q2 M.length d2) E) rfl)
    refine wpAnyH_done (by kernel_rfl) ?_ _
    go_wp2_with fail
    go_meet
    exact ⟨_, p, c, p2, c2, q2, d2, rfl, X⟩
  case rest =>
    clear X HFR HDD HMM HSZ
    obtain ⟨z, p, c, p2, c2, q2, d2, rfl, X⟩ := hcut
    have m_k : wc.cell? ⟨W.heap.size + 1 + 1, 0, none⟩ = some (.int .i64 4) := cell_of_row _ _ 0 _ 42 (0, 0) X.out.g3
    have m_s : wc.cell? ⟨W.heap.size + 1 + 1, 1, none⟩ = some (.string es) := cell_of_row _ _ 1 _ 42 (0, 0) X.out.g3
    go_upto_region 16 with (fail)
    clear m_k m_s
    obtain ⟨gr, hp, hFc⟩ := own_head X.out.r2 h0
    subst hp
    have hFm := own_max X.out.r2 h0
    refine wp_region_held (S := fun w => Box w W.heap.size (b.at (some ⟨gr, 0, none⟩) F.length c) ∧ w.cell? ⟨gr, 0, none⟩ = some (.string f0)) (by kernel_rfl) ?_
    have hdr : { wc with drawn := wc.drawn + 1 } = wc.drew := rfl
    rw [hdr]
    clear hdr
    replace X := Lib.hid (X.out.next (Below.refl _ _).drew)
    generalize wc.drew = wz at X ⊢
    have hS : Box wz W.heap.size (b.at (some ⟨gr, 0, none⟩) F.length c) ∧ wz.cell? ⟨gr, 0, none⟩ = some (.string f0) := ⟨X.out.b5, HF0.out ▸ own_cell X.out.r2 0 h0⟩
    refine wpAnyH_take (i := 0) (oi := ⟨some 86, Op.fieldAddr 30 (.tmp 3) 9, _, _, _, _⟩) (v := ?_) rfl (by kernel_rfl) (by kernel_rfl) (by kernel_rfl) (fun _ _ _ h => h) (Or.inl ⟨by rfl, ?_⟩) hS ?_
    rotate_left
    · (intro w hSw; (try dsimp only at hSw); go_simp; try with_reducible rfl)
    simp only [Act.put, List.setIfInBounds_toArray, List.set_cons_zero, List.set_cons_succ]
    refine wpAnyH_take (i := 1) (oi := ⟨some 87, Op.load 23 (.tmp 86), _, _, _, _⟩) (v := _) rfl (by kernel_rfl) (by kernel_rfl) (by kernel_rfl) (fun _ _ _ h => h) (yields_load rfl rfl rfl (fun w hw => Box.rd_fr hw.1)) hS ?_
    simp only [Act.put, List.setIfInBounds_toArray, List.set_cons_zero, List.set_cons_succ]
    refine wpAnyH_take (i := 2) (oi := ⟨some 88, Op.call { callee := .builtin .len, args := #[.tmp 87], argTypes := #[23] }, _, _, _, _⟩) (v := ?_) rfl (by kernel_rfl) (by kernel_rfl) (by kernel_rfl) (fun _ _ _ h => h) (Or.inl ⟨by rfl, ?_⟩) hS ?_
    rotate_left
    · (intro w hSw; (try dsimp only at hSw); go_simp; try with_reducible rfl)
    simp only [Act.put, List.setIfInBounds_toArray, List.set_cons_zero, List.set_cons_succ]
    refine wpAnyH_take (i := 3) (oi := ⟨some 89, Op.binOp .gtr 3 (.tmp 88) (.const (.int .i64 0)) 3, _, _, _, _⟩) (v := ?_) rfl (by kernel_rfl) (by kernel_rfl) (by kernel_rfl) (fun _ _ _ h => h) (Or.inl ⟨by rfl, ?_⟩) hS ?_
    rotate_left
    · (intro w hSw; (try dsimp only at hSw); go_simp; try with_reducible rfl)
    simp only [Act.put, List.setIfInBounds_toArray, List.set_cons_zero, List.set_cons_succ]
    refine wpAnyH_take (i := 4) (oi := ⟨some 90, Op.move (.tmp 89), _, _, _, _⟩) (v := ?_) rfl (by kernel_rfl) (by kernel_rfl) (by kernel_rfl) (fun _ _ _ h => h) (Or.inl ⟨by rfl, ?_⟩) hS ?_
    rotate_left
    · (intro w hSw; (try dsimp only at hSw); go_simp; try with_reducible rfl)
    simp only [Act.put, List.setIfInBounds_toArray, List.set_cons_zero, List.set_cons_succ]
    refine wpAnyH_take (i := 5) (oi := ⟨some 91, Op.fieldAddr 30 (.tmp 3) 10, _, _, _, _⟩) (v := ?_) rfl (by kernel_rfl) (by kernel_rfl) (by kernel_rfl) (fun _ _ _ h => h) (Or.inl ⟨by rfl, ?_⟩) hS ?_
    rotate_left
    · (intro w hSw; (try dsimp only at hSw); go_simp; try with_reducible rfl)
    simp only [Act.put, List.setIfInBounds_toArray, List.set_cons_zero, List.set_cons_succ]
    refine wpAnyH_take (i := 6) (oi := ⟨some 92, Op.load 22 (.tmp 91), _, _, _, _⟩) (v := _) rfl (by kernel_rfl) (by kernel_rfl) (by kernel_rfl) (fun _ _ _ h => h) (yields_loadw (by kernel_rfl) rfl rfl (fun w hw => Box.at_nicA hw.1)) hS ?_
    simp only [Act.put, List.setIfInBounds_toArray, List.set_cons_zero, List.set_cons_succ]
    refine wpAnyH_take (i := 7) (oi := ⟨some 93, Op.fieldAddr 30 (.tmp 3) 9, _, _, _, _⟩) (v := ?_) rfl (by kernel_rfl) (by kernel_rfl) (by kernel_rfl) (fun _ _ _ h => h) (Or.inl ⟨by rfl, ?_⟩) hS ?_
    rotate_left
    · (intro w hSw; (try dsimp only at hSw); go_simp; try with_reducible rfl)
    simp only [Act.put, List.setIfInBounds_toArray, List.set_cons_zero, List.set_cons_succ]
    refine wpAnyH_take (i := 8) (oi := ⟨some 94, Op.load 23 (.tmp 93), _, _, _, _⟩) (v := _) rfl (by kernel_rfl) (by kernel_rfl) (by kernel_rfl) (fun _ _ _ h => h) (yields_loadw (by kernel_rfl) rfl rfl (fun w hw => Box.rd_fr hw.1)) hS ?_
    simp only [Act.put, List.setIfInBounds_toArray, List.set_cons_zero, List.set_cons_succ]
    refine wpAnyH_take (i := 9) (oi := ⟨some 95, Op.indexAddr 23 (.tmp 94) (.const (.int .i64 0)), _, _, _, _⟩) (v := ?_) rfl (by kernel_rfl) (by kernel_rfl) (by kernel_rfl) (fun _ _ _ h => h) (Or.inl ⟨by rfl, ?_⟩) hS ?_
    rotate_left
    · (intro w hSw; (try dsimp only at hSw); go_simp; try with_reducible rfl)
    simp only [Act.put, List.setIfInBounds_toArray, List.set_cons_zero, List.set_cons_succ]
    refine wpAnyH_take (i := 10) (oi := ⟨some 96, Op.load 9 (.tmp 95), _, _, _, _⟩) (v := ?_) rfl (by kernel_rfl) (by kernel_rfl) (by kernel_rfl) (fun _ _ _ h => h) (Or.inl ⟨by rfl, ?_⟩) hS ?_
    rotate_left
    · (rintro w ⟨_, hSw⟩; go_simp; try with_reducible rfl)
    simp only [Act.put, List.setIfInBounds_toArray, List.set_cons_zero, List.set_cons_succ]
    refine held_calls (i := 11) (o := ⟨some 97, Op.call { callee := .value (.func 34), args := #[.tmp 10, .tmp 92, .tmp 96], argTypes := #[70, 22, 9] }, _, _, _, _⟩) (by kernel_rfl) rfl (by kernel_rfl) (by go_simp) (calls_put X.out (by simp) b.nicA f0 HA.out.1.1 HA.out.1.2 HA.out.2.1) ?_
    rintro v' wq ⟨hv', X'⟩
    rw [HA.out.2.2] at hv'
    subst hv'
    replace X := Lib.hid X'
    clear X'
    refine ⟨⟨X.out.b5, HF0.out ▸ own_cell X.out.r2 0 h0⟩, fun hS => ?_⟩
    simp only [Act.put, List.setIfInBounds_toArray, List.set_cons_zero, List.set_cons_succ]
    refine wpAnyH_take (i := 12) (oi := ⟨some 98, Op.pick (.tmp 90) (.tmp 97) (.const (.bool false)), _, _, _, _⟩) (v := ?_) rfl (by kernel_rfl) (by kernel_rfl) (by kernel_rfl) (fun _ _ _ h => h) (Or.inl ⟨by rfl, ?_⟩) hS ?_
    rotate_left
    · (intro w hSw; (try dsimp only at hSw); go_simp; try with_reducible rfl)
    simp only [Act.put, List.setIfInBounds_toArray, List.set_cons_zero, List.set_cons_succ]
    refine wpAnyH_done (by kernel_rfl) ?_ _
    go_upto_region 21 with (fail)
    refine wp_region_held (S := fun w => Box w W.heap.size (b.at (some ⟨gr, 0, none⟩) F.length c) ∧ w.heap[z]? = some (.cells (ramC (.slice p2 D.length c2) (.slice q2 M.length d2) E) 49 (0, 0))) (by kernel_rfl) ?_
    have hdr : { wq with drawn := wq.drawn + 1 } = wq.drew := rfl
    rw [hdr]
    clear hdr
    replace X := Lib.hid (X.out.next (Below.refl _ _).drew)
    generalize wq.drew = wz at X ⊢
    have hS : Box wz W.heap.size (b.at (some ⟨gr, 0, none⟩) F.length c) ∧ wz.heap[z]? = some (.cells (ramC (.slice p2 D.length c2) (.slice q2 M.length d2) E) 49 (0, 0)) := ⟨X.out.b5, X.out.g0⟩
    refine wpAnyH_take (i := 0) (oi := ⟨some 115, Op.load 30 (.tmp 3), _, _, _, none⟩) (v := _) rfl (by kernel_rfl) (by kernel_rfl) (by kernel_rfl) (fun _ _ _ h => h) (yields_load rfl rfl rfl (fun w hw => hw.1.load)) hS ?_
    simp only [Act.put, List.setIfInBounds_toArray, List.set_cons_zero, List.set_cons_succ]
    refine wpAnyH_take (i := 1) (oi := ⟨some 116, Op.load 49 (.tmp 10), _, _, _, none⟩) (v := _) rfl (by kernel_rfl) (by kernel_rfl) (by kernel_rfl) (fun _ _ _ h => h) (yields_load rfl rfl rfl (fun w hw => ram_load hw.2)) hS ?_
    simp only [Act.put, List.setIfInBounds_toArray, List.set_cons_zero, List.set_cons_succ]
    refine held_store (i := 2) (o := ⟨none, Op.store 30 (.tmp 6) (.tmp 115), _, _, _, none⟩) (by kernel_rfl) rfl rfl rfl rfl rfl (store_box _ _ _ _ X.out.b2 (bdC_size _)) (⟨(X.out.p2 (cs' := bdC (b.at (some ⟨gr, 0, none⟩) F.length c)) rfl).b5, (X.out.p2 (cs' := bdC (b.at (some ⟨gr, 0, none⟩) F.length c)) rfl).g0⟩) ?_
    simp only [Act.put]
    replace X := Lib.hid (X.out.p2 (cs' := bdC (b.at (some ⟨gr, 0, none⟩) F.length c)) rfl)
    refine held_store (i := 3) (o := ⟨none, Op.store 49 (.tmp 7) (.tmp 116), _, _, _, none⟩) (by kernel_rfl) rfl rfl rfl rfl rfl (ram_store X.out.g1 rfl) (⟨(X.out.p1 (cs' := (ramC (.slice p2 D.length c2) (.slice q2 M.length d2) E)) rfl).b5, (X.out.p1 (cs' := (ramC (.slice p2 D.length c2) (.slice q2 M.length d2) E)) rfl).g0⟩) ?_
    simp only [Act.put]
    replace X := Lib.hid (X.out.p1 (cs' := (ramC (.slice p2 D.length c2) (.slice q2 M.length d2) E)) rfl)
    replace hS := And.intro X.out.b5 X.out.g0
    refine wpAnyH_take (i := 4) (oi := ⟨some 8, Op.assign (.const (.string ⟨#[]⟩)), _, _, _, none⟩) (v := ?_) rfl (by kernel_rfl) (by kernel_rfl) (by kernel_rfl) (fun _ _ _ h => h) (Or.inl ⟨by rfl, ?_⟩) hS ?_
    rotate_left
    · (intro w hSw; (try dsimp only at hSw); go_simp; try with_reducible rfl)
    simp only [Act.put, List.setIfInBounds_toArray, List.set_cons_zero, List.set_cons_succ]
    refine wpAnyH_take (i := 5) (oi := ⟨some 9, Op.assign (.const (.bool false)), _, _, _, none⟩) (v := ?_) rfl (by kernel_rfl) (by kernel_rfl) (by kernel_rfl) (fun _ _ _ h => h) (Or.inl ⟨by rfl, ?_⟩) hS ?_
    rotate_left
    · (intro w hSw; (try dsimp only at hSw); go_simp; try with_reducible rfl)
    simp only [Act.put, List.setIfInBounds_toArray, List.set_cons_zero, List.set_cons_succ]
    refine wpAnyH_done (by kernel_rfl) ?_ _
    go_wp2_with fail
    exact bodyPost_ret (v := .tuple #[bdV (b.at (some ⟨gr, 0, none⟩) F.length c), .agg (ramC (.slice p2 D.length c2) (.slice q2 M.length d2) E), .string (⟨#[]⟩), .bool false]) (results_act Try.results21 _ _ (W.heap.size + 1 + 1 + 1) (W.heap.size + 1 + 1 + 1 + 1) _ _ _ _ _ _ rfl X.out.b2 rfl X.out.g1 rfl rfl) rfl ⟨_, c, _, _, rfl, FAt.of X.out.r2, reads_of_owns X.out.r1, reads_of_owns X.out.r0, X.out.below⟩
set_option maxRecDepth 100000 in
set_option maxHeartbeats 2000000 in
theorem act_recv2 (b : Bd) (F : List ByteArray) (p1 q1 : Option Addr) (c1 d1 : Nat) (E : Int) (es : ByteArray) (D : List UInt8) (M : List Int)  (W : World) (hf : FAt W (.slice b.fp b.fn b.fc) F) (hF : F.length ≤ 8796093022208) (hd : DAt W (.slice p1 D.length c1) D) (hm : MAt W (.slice q1 M.length d1) M) (hD : D.length ≤ 140737488351232) (hM : M.length ≤ 17592186043904)(h0 : 0 < F.length) (ha : 0 ≤ b.nicA ∧ b.nicA ≤ 18446744073709551615) (hz : F[0].size ≤ 9223372036854775807) (hk : putB D.length b.nicA F[0] = true) : Calls Try.prog 21 #[bdV b, .agg (ramC (.slice p1 D.length c1) (.slice q1 M.length d1) E), .agg #[.int .i64 4, .string es]] W (Acted W (b) (F.tail) E (putD D b.nicA F[0]) (putM D.length M E b.nicA F[0]) (⟨#[]⟩) (false)) := by
  have HFR := Lib.hid (fun W' (h : Below W.heap.size W W') => hf.next h)
  have HDD := Lib.hid (fun W' (h : Below W.heap.size W W') => hd.below h)
  have HMM := Lib.hid (fun W' (h : Below W.heap.size W W') => hm.below h)
  have HSZ := Lib.hid (And.intro hF (And.intro hD hM))
  clear hf hF hd hm hD hM
  have g0 : decide (0 < F.length) = true := decide_eq_true h0
  obtain ⟨f0, hf0⟩ : ∃ x, F[0] = x := ⟨_, rfl⟩
  rw [hf0] at hz hk ⊢
  have HF0 := Lib.hid hf0
  have HA := Lib.hid (And.intro ha (And.intro hz hk))
  clear ha hz hk hf0
  go_enter Try.func21, Try.ntmps21
  have X := Lib.hid (act_start W b p1 q1 D.length M.length c1 d1 E 4 es)
  go_upto_region 1 with (fail)
  generalize ((((W.alloc (bdO b)).alloc (.cells (ramC (.slice p1 D.length c1) (.slice q1 M.length d1) E) 49)).alloc (.cells #[.int .i64 4, .string es] 42)).alloc zeroO).alloc ramZO = wr at X ⊢
  go_cut [10] (fun s10 wx => ∃ (z : Nat) (p : Option Addr) (c : Nat) (p2 : Option Addr) (c2 : Nat) (q2 : Option Addr) (d2 : Nat), s10 = .pointer (some ⟨z, 0, none⟩) ∧ RowKit.Hid (Mem W wx [(z, ramC (.slice p2 D.length c2) (.slice q2 M.length d2) E, 49), (W.heap.size + 1 + 1 + 1 + 1, ramZC, 49), (W.heap.size + 1 + 1 + 1, bdC bdZ, 30), (W.heap.size + 1 + 1, #[.int .i64 4, .string es], 42), (W.heap.size + 1, (ramC (.slice p1 D.length c1) (.slice q1 M.length d1) E), 49), (W.heap.size, bdC (b.at p F.length c), 30)] [(22, .slice q2 M.length d2, M.length, mC M), (5, .slice p2 D.length c2, D.length, dC D), (9, .slice p F.length c, F.length, sC F)]))
  case first =>
    refine wp_region_held (S := fun w => w.heap[W.heap.size + 1]? = some (.cells (ramC (.slice p1 D.length c1) (.slice q1 M.length d1) E) 49 (0, 0))) (by kernel_rfl) ?_
    have hdr : { wr with drawn := wr.drawn + 1 } = wr.drew := rfl
    rw [hdr]
    clear hdr
    replace X := Lib.hid (X.out.next (Below.refl _ _).drew)
    generalize wr.drew = wz at X ⊢
    have hS : wz.heap[W.heap.size + 1]? = some (.cells (ramC (.slice p1 D.length c1) (.slice q1 M.length d1) E) 49 (0, 0)) := X.out.g3
    refine wpAnyH_take (i := 2) (oi := ⟨some 18, Op.load 49 (.tmp 4), _, _, _, none⟩) (v := _) rfl (by kernel_rfl) (by kernel_rfl) (by kernel_rfl) (fun _ _ _ h => h) (yields_load rfl rfl rfl (fun w hw => ram_load hw)) hS ?_
    simp only [Act.put, List.setIfInBounds_toArray, List.set_cons_zero, List.set_cons_succ]
    refine wpAnyH_ready (rs := [0, 4]) (by kernel_rfl) (by simp) ?_
    refine cons_op (i := 0) (o := ⟨some 16, Op.load 30 (.tmp 3), _, _, _, _⟩) (w' := _) rfl rfl (exec_load rfl (Box.load X.out.b4) rfl) hS ?_ ?_
    · simp only [Act.put, List.setIfInBounds_toArray, List.set_cons_zero, List.set_cons_succ]
      refine wpAnyH_ready (rs := [1, 4]) (by kernel_rfl) (by simp) ?_
      refine cons_calls (i := 1) (o := ⟨some 17, Op.call { callee := .value (.func 20), args := #[.tmp 16], argTypes := #[30] }, _, _, _, _⟩) rfl (by kernel_rfl) (by go_simp) (calls_copied (copy_bd b F _ (HFR.out _ X.out.below) HSZ.out.1)) ?_ ?_
      · rintro v' w' ⟨p, c, hv', ho, kk⟩
        subst hv'
        replace X := Lib.hid ((X.out.next kk).addrow ho X.out.below.size (by decide))
        refine ⟨X.out.g3, fun hS => ?_⟩
        clear ho kk
        simp only [Act.put, List.setIfInBounds_toArray, List.set_cons_zero, List.set_cons_succ]
        refine wpAnyH_ready (rs := [3, 4]) (by kernel_rfl) (by simp) ?_
        refine cons_calls (i := 3) (o := ⟨some 19, Op.call { callee := .value (.func 33), args := #[.tmp 18], argTypes := #[49] }, _, _, _, _⟩) rfl (by kernel_rfl) (by go_simp) (calls_mem (copy_any _ _ E D M _ (HDD.out _ X.out.below) (HMM.out _ X.out.below) HSZ.out.2.1 HSZ.out.2.2)) ?_ ?_
        · rintro v' w' ⟨p2, c2, q2, d2, hv', ho, ho2, kk⟩
          subst hv'
          replace X := Lib.hid (((X.out.next kk).addrow ho X.out.below.size (by decide)).addrow ho2 X.out.below.size (by decide))
          refine ⟨X.out.g3, fun hS => ?_⟩
          clear ho ho2 kk
          simp only [Act.put, List.setIfInBounds_toArray, List.set_cons_zero, List.set_cons_succ]
          refine held_op (i := 4) (o := ⟨some 10, Op.alloc 49, _, _, _, _⟩) (w' := w'.alloc ramZO) (v := .pointer (some ⟨w'.heap.size, 0, none⟩)) (by kernel_rfl) rfl rfl (by go_simp) X.out.newR.g4 ?_
          simp only [Act.put, List.setIfInBounds_toArray, List.set_cons_zero, List.set_cons_succ]
          replace X := Lib.hid X.out.newR
          have hS := X.out.g4
          generalize hz : w'.heap.size = z at X ⊢
          clear hz
          generalize w'.alloc ramZO = wn at X hS ⊢
          refine held_store (i := 5) (o := ⟨none, Op.store 30 (.tmp 3) (.tmp 17), _, _, _, none⟩) (by kernel_rfl) rfl rfl rfl rfl rfl (store_box _ _ _ _ X.out.b5 (bdC_size _)) (X.out.p5 (cs' := bdC (b.at p F.length c)) rfl).g4 ?_
          simp only [Act.put]
          replace X := Lib.hid (X.out.p5 (cs' := bdC (b.at p F.length c)) rfl)
          replace hS := X.out.g4
          refine held_store (i := 6) (o := ⟨none, Op.store 49 (.tmp 10) (.tmp 19), _, _, _, none⟩) (by kernel_rfl) rfl rfl rfl rfl rfl (ram_store X.out.g0 rfl) (X.out.p0 (cs' := ramC (.slice p2 D.length c2) (.slice q2 M.length d2) E) rfl).g4 ?_
          simp only [Act.put]
          replace X := Lib.hid (X.out.p0 (cs' := ramC (.slice p2 D.length c2) (.slice q2 M.length d2) E) rfl)
          refine wpAnyH_done (by kernel_rfl) ?_ _
          go_wp2_with fail
          go_meet
          exact ⟨_, p, c, p2, c2, q2, d2, rfl, X⟩
        refine cons_op (i := 4) (o := ⟨some 10, Op.alloc 49, _, _, _, _⟩) (w' := w'.alloc ramZO) (v := .pointer (some ⟨w'.heap.size, 0, none⟩)) rfl rfl (by go_simp) X.out.newR.g4 ?_ AllReadyH.nil
        simp only [Act.put, List.setIfInBounds_toArray, List.set_cons_zero, List.set_cons_succ]
        replace X := Lib.hid X.out.newR
        have hS := X.out.g4
        generalize hz : w'.heap.size = z at X ⊢
        clear hz
        generalize w'.alloc ramZO = wn at X hS ⊢
        refine held_calls (i := 3) (o := ⟨some 19, Op.call { callee := .value (.func 33), args := #[.tmp 18], argTypes := #[49] }, _, _, _, _⟩) (by kernel_rfl) rfl (by kernel_rfl) (by go_simp) (calls_mem (copy_any _ _ E D M _ (HDD.out _ X.out.below) (HMM.out _ X.out.below) HSZ.out.2.1 HSZ.out.2.2)) ?_
        rintro v' w' ⟨p2, c2, q2, d2, hv', ho, ho2, kk⟩
        subst hv'
        replace X := Lib.hid (((X.out.next kk).addrow ho X.out.below.size (by decide)).addrow ho2 X.out.below.size (by decide))
        refine ⟨X.out.g4, fun hS => ?_⟩
        clear ho ho2 kk
        simp only [Act.put, List.setIfInBounds_toArray, List.set_cons_zero, List.set_cons_succ]
        refine held_store (i := 5) (o := ⟨none, Op.store 30 (.tmp 3) (.tmp 17), _, _, _, none⟩) (by kernel_rfl) rfl rfl rfl rfl rfl (store_box _ _ _ _ X.out.b5 (bdC_size _)) (X.out.p5 (cs' := bdC (b.at p F.length c)) rfl).g4 ?_
        simp only [Act.put]
        replace X := Lib.hid (X.out.p5 (cs' := bdC (b.at p F.length c)) rfl)
        replace hS := X.out.g4
        refine held_store (i := 6) (o := ⟨none, Op.store 49 (.tmp 10) (.tmp 19), _, _, _, none⟩) (by kernel_rfl) rfl rfl rfl rfl rfl (ram_store X.out.g0 rfl) (X.out.p0 (cs' := ramC (.slice p2 D.length c2) (.slice q2 M.length d2) E) rfl).g4 ?_
        simp only [Act.put]
        replace X := Lib.hid (X.out.p0 (cs' := ramC (.slice p2 D.length c2) (.slice q2 M.length d2) E) rfl)
        refine wpAnyH_done (by kernel_rfl) ?_ _
        go_wp2_with fail
        go_meet
        exact ⟨_, p, c, p2, c2, q2, d2, rfl, X⟩
      refine cons_op (i := 4) (o := ⟨some 10, Op.alloc 49, _, _, _, _⟩) (w' := wz.alloc ramZO) (v := .pointer (some ⟨wz.heap.size, 0, none⟩)) rfl rfl (by go_simp) X.out.newR.g4 ?_ AllReadyH.nil
      simp only [Act.put, List.setIfInBounds_toArray, List.set_cons_zero, List.set_cons_succ]
      replace X := Lib.hid X.out.newR
      have hS := X.out.g4
      generalize hz : wz.heap.size = z at X ⊢
      clear hz
      generalize wz.alloc ramZO = wn at X hS ⊢
      refine held_calls (i := 1) (o := ⟨some 17, Op.call { callee := .value (.func 20), args := #[.tmp 16], argTypes := #[30] }, _, _, _, _⟩) (by kernel_rfl) rfl (by kernel_rfl) (by go_simp) (calls_copied (copy_bd b F _ (HFR.out _ X.out.below) HSZ.out.1)) ?_
      rintro v' w' ⟨p, c, hv', ho, kk⟩
      subst hv'
      replace X := Lib.hid ((X.out.next kk).addrow ho X.out.below.size (by decide))
      refine ⟨X.out.g4, fun hS => ?_⟩
      clear ho kk
      simp only [Act.put, List.setIfInBounds_toArray, List.set_cons_zero, List.set_cons_succ]
      refine held_calls (i := 3) (o := ⟨some 19, Op.call { callee := .value (.func 33), args := #[.tmp 18], argTypes := #[49] }, _, _, _, _⟩) (by kernel_rfl) rfl (by kernel_rfl) (by go_simp) (calls_mem (copy_any _ _ E D M _ (HDD.out _ X.out.below) (HMM.out _ X.out.below) HSZ.out.2.1 HSZ.out.2.2)) ?_
      rintro v' w' ⟨p2, c2, q2, d2, hv', ho, ho2, kk⟩
      subst hv'
      replace X := Lib.hid (((X.out.next kk).addrow ho X.out.below.size (by decide)).addrow ho2 X.out.below.size (by decide))
      refine ⟨X.out.g4, fun hS => ?_⟩
      clear ho ho2 kk
      simp only [Act.put, List.setIfInBounds_toArray, List.set_cons_zero, List.set_cons_succ]
      refine held_store (i := 5) (o := ⟨none, Op.store 30 (.tmp 3) (.tmp 17), _, _, _, none⟩) (by kernel_rfl) rfl rfl rfl rfl rfl (store_box _ _ _ _ X.out.b5 (bdC_size _)) (X.out.p5 (cs' := bdC (b.at p F.length c)) rfl).g4 ?_
      simp only [Act.put]
      replace X := Lib.hid (X.out.p5 (cs' := bdC (b.at p F.length c)) rfl)
      replace hS := X.out.g4
      refine held_store (i := 6) (o := ⟨none, Op.store 49 (.tmp 10) (.tmp 19), _, _, _, none⟩) (by kernel_rfl) rfl rfl rfl rfl rfl (ram_store X.out.g0 rfl) (X.out.p0 (cs' := ramC (.slice p2 D.length c2) (.slice q2 M.length d2) E) rfl).g4 ?_
      simp only [Act.put]
      replace X := Lib.hid (X.out.p0 (cs' := ramC (.slice p2 D.length c2) (.slice q2 M.length d2) E) rfl)
      refine wpAnyH_done (by kernel_rfl) ?_ _
      go_wp2_with fail
      go_meet
      exact ⟨_, p, c, p2, c2, q2, d2, rfl, X⟩
    refine cons_op (i := 4) (o := ⟨some 10, Op.alloc 49, _, _, _, _⟩) (w' := wz.alloc ramZO) (v := .pointer (some ⟨wz.heap.size, 0, none⟩)) rfl rfl (by go_simp) X.out.newR.g4 ?_ AllReadyH.nil
    simp only [Act.put, List.setIfInBounds_toArray, List.set_cons_zero, List.set_cons_succ]
    replace X := Lib.hid X.out.newR
    have hS := X.out.g4
    generalize hz : wz.heap.size = z at X ⊢
    clear hz
    generalize wz.alloc ramZO = wn at X hS ⊢
    refine held_op (i := 0) (o := ⟨some 16, Op.load 30 (.tmp 3), _, _, _, _⟩) (w' := _) (by kernel_rfl) rfl rfl (exec_load rfl (Box.load X.out.b5) rfl) hS ?_
    simp only [Act.put, List.setIfInBounds_toArray, List.set_cons_zero, List.set_cons_succ]
    refine held_calls (i := 1) (o := ⟨some 17, Op.call { callee := .value (.func 20), args := #[.tmp 16], argTypes := #[30] }, _, _, _, _⟩) (by kernel_rfl) rfl (by kernel_rfl) (by go_simp) (calls_copied (copy_bd b F _ (HFR.out _ X.out.below) HSZ.out.1)) ?_
    rintro v' w' ⟨p, c, hv', ho, kk⟩
    subst hv'
    replace X := Lib.hid ((X.out.next kk).addrow ho X.out.below.size (by decide))
    refine ⟨X.out.g4, fun hS => ?_⟩
    clear ho kk
    simp only [Act.put, List.setIfInBounds_toArray, List.set_cons_zero, List.set_cons_succ]
    refine held_calls (i := 3) (o := ⟨some 19, Op.call { callee := .value (.func 33), args := #[.tmp 18], argTypes := #[49] }, _, _, _, _⟩) (by kernel_rfl) rfl (by kernel_rfl) (by go_simp) (calls_mem (copy_any _ _ E D M _ (HDD.out _ X.out.below) (HMM.out _ X.out.below) HSZ.out.2.1 HSZ.out.2.2)) ?_
    rintro v' w' ⟨p2, c2, q2, d2, hv', ho, ho2, kk⟩
    subst hv'
    replace X := Lib.hid (((X.out.next kk).addrow ho X.out.below.size (by decide)).addrow ho2 X.out.below.size (by decide))
    refine ⟨X.out.g4, fun hS => ?_⟩
    clear ho ho2 kk
    simp only [Act.put, List.setIfInBounds_toArray, List.set_cons_zero, List.set_cons_succ]
    refine held_store (i := 5) (o := ⟨none, Op.store 30 (.tmp 3) (.tmp 17), _, _, _, none⟩) (by kernel_rfl) rfl rfl rfl rfl rfl (store_box _ _ _ _ X.out.b5 (bdC_size _)) (X.out.p5 (cs' := bdC (b.at p F.length c)) rfl).g4 ?_
    simp only [Act.put]
    replace X := Lib.hid (X.out.p5 (cs' := bdC (b.at p F.length c)) rfl)
    replace hS := X.out.g4
    refine held_store (i := 6) (o := ⟨none, Op.store 49 (.tmp 10) (.tmp 19), _, _, _, none⟩) (by kernel_rfl) rfl rfl rfl rfl rfl (ram_store X.out.g0 rfl) (X.out.p0 (cs' := ramC (.slice p2 D.length c2) (.slice q2 M.length d2) E) rfl).g4 ?_
    simp only [Act.put]
    replace X := Lib.hid (X.out.p0 (cs' := ramC (.slice p2 D.length c2) (.slice q2 M.length d2) E) rfl)
    refine wpAnyH_done (by kernel_rfl) ?_ _
    go_wp2_with fail
    go_meet
    exact ⟨_, p, c, p2, c2, q2, d2, rfl, X⟩
  case rest =>
    clear X HFR HDD HMM HSZ
    obtain ⟨z, p, c, p2, c2, q2, d2, rfl, X⟩ := hcut
    have m_k : wc.cell? ⟨W.heap.size + 1 + 1, 0, none⟩ = some (.int .i64 4) := cell_of_row _ _ 0 _ 42 (0, 0) X.out.g3
    have m_s : wc.cell? ⟨W.heap.size + 1 + 1, 1, none⟩ = some (.string es) := cell_of_row _ _ 1 _ 42 (0, 0) X.out.g3
    go_upto_region 16 with (fail)
    clear m_k m_s
    obtain ⟨gr, hp, hFc⟩ := own_head X.out.r2 h0
    subst hp
    have hFm := own_max X.out.r2 h0
    refine wp_region_held (S := fun w => Box w W.heap.size (b.at (some ⟨gr, 0, none⟩) F.length c) ∧ w.cell? ⟨gr, 0, none⟩ = some (.string f0)) (by kernel_rfl) ?_
    have hdr : { wc with drawn := wc.drawn + 1 } = wc.drew := rfl
    rw [hdr]
    clear hdr
    replace X := Lib.hid (X.out.next (Below.refl _ _).drew)
    generalize wc.drew = wz at X ⊢
    have hS : Box wz W.heap.size (b.at (some ⟨gr, 0, none⟩) F.length c) ∧ wz.cell? ⟨gr, 0, none⟩ = some (.string f0) := ⟨X.out.b5, HF0.out ▸ own_cell X.out.r2 0 h0⟩
    refine wpAnyH_take (i := 0) (oi := ⟨some 86, Op.fieldAddr 30 (.tmp 3) 9, _, _, _, _⟩) (v := ?_) rfl (by kernel_rfl) (by kernel_rfl) (by kernel_rfl) (fun _ _ _ h => h) (Or.inl ⟨by rfl, ?_⟩) hS ?_
    rotate_left
    · (intro w hSw; (try dsimp only at hSw); go_simp; try with_reducible rfl)
    simp only [Act.put, List.setIfInBounds_toArray, List.set_cons_zero, List.set_cons_succ]
    refine wpAnyH_take (i := 1) (oi := ⟨some 87, Op.load 23 (.tmp 86), _, _, _, _⟩) (v := _) rfl (by kernel_rfl) (by kernel_rfl) (by kernel_rfl) (fun _ _ _ h => h) (yields_load rfl rfl rfl (fun w hw => Box.rd_fr hw.1)) hS ?_
    simp only [Act.put, List.setIfInBounds_toArray, List.set_cons_zero, List.set_cons_succ]
    refine wpAnyH_take (i := 2) (oi := ⟨some 88, Op.call { callee := .builtin .len, args := #[.tmp 87], argTypes := #[23] }, _, _, _, _⟩) (v := ?_) rfl (by kernel_rfl) (by kernel_rfl) (by kernel_rfl) (fun _ _ _ h => h) (Or.inl ⟨by rfl, ?_⟩) hS ?_
    rotate_left
    · (intro w hSw; (try dsimp only at hSw); go_simp; try with_reducible rfl)
    simp only [Act.put, List.setIfInBounds_toArray, List.set_cons_zero, List.set_cons_succ]
    refine wpAnyH_take (i := 3) (oi := ⟨some 89, Op.binOp .gtr 3 (.tmp 88) (.const (.int .i64 0)) 3, _, _, _, _⟩) (v := ?_) rfl (by kernel_rfl) (by kernel_rfl) (by kernel_rfl) (fun _ _ _ h => h) (Or.inl ⟨by rfl, ?_⟩) hS ?_
    rotate_left
    · (intro w hSw; (try dsimp only at hSw); go_simp; try with_reducible rfl)
    simp only [Act.put, List.setIfInBounds_toArray, List.set_cons_zero, List.set_cons_succ]
    refine wpAnyH_take (i := 4) (oi := ⟨some 90, Op.move (.tmp 89), _, _, _, _⟩) (v := ?_) rfl (by kernel_rfl) (by kernel_rfl) (by kernel_rfl) (fun _ _ _ h => h) (Or.inl ⟨by rfl, ?_⟩) hS ?_
    rotate_left
    · (intro w hSw; (try dsimp only at hSw); go_simp; try with_reducible rfl)
    simp only [Act.put, List.setIfInBounds_toArray, List.set_cons_zero, List.set_cons_succ]
    refine wpAnyH_take (i := 5) (oi := ⟨some 91, Op.fieldAddr 30 (.tmp 3) 10, _, _, _, _⟩) (v := ?_) rfl (by kernel_rfl) (by kernel_rfl) (by kernel_rfl) (fun _ _ _ h => h) (Or.inl ⟨by rfl, ?_⟩) hS ?_
    rotate_left
    · (intro w hSw; (try dsimp only at hSw); go_simp; try with_reducible rfl)
    simp only [Act.put, List.setIfInBounds_toArray, List.set_cons_zero, List.set_cons_succ]
    refine wpAnyH_take (i := 6) (oi := ⟨some 92, Op.load 22 (.tmp 91), _, _, _, _⟩) (v := _) rfl (by kernel_rfl) (by kernel_rfl) (by kernel_rfl) (fun _ _ _ h => h) (yields_loadw (by kernel_rfl) rfl rfl (fun w hw => Box.at_nicA hw.1)) hS ?_
    simp only [Act.put, List.setIfInBounds_toArray, List.set_cons_zero, List.set_cons_succ]
    refine wpAnyH_take (i := 7) (oi := ⟨some 93, Op.fieldAddr 30 (.tmp 3) 9, _, _, _, _⟩) (v := ?_) rfl (by kernel_rfl) (by kernel_rfl) (by kernel_rfl) (fun _ _ _ h => h) (Or.inl ⟨by rfl, ?_⟩) hS ?_
    rotate_left
    · (intro w hSw; (try dsimp only at hSw); go_simp; try with_reducible rfl)
    simp only [Act.put, List.setIfInBounds_toArray, List.set_cons_zero, List.set_cons_succ]
    refine wpAnyH_take (i := 8) (oi := ⟨some 94, Op.load 23 (.tmp 93), _, _, _, _⟩) (v := _) rfl (by kernel_rfl) (by kernel_rfl) (by kernel_rfl) (fun _ _ _ h => h) (yields_loadw (by kernel_rfl) rfl rfl (fun w hw => Box.rd_fr hw.1)) hS ?_
    simp only [Act.put, List.setIfInBounds_toArray, List.set_cons_zero, List.set_cons_succ]
    refine wpAnyH_take (i := 9) (oi := ⟨some 95, Op.indexAddr 23 (.tmp 94) (.const (.int .i64 0)), _, _, _, _⟩) (v := ?_) rfl (by kernel_rfl) (by kernel_rfl) (by kernel_rfl) (fun _ _ _ h => h) (Or.inl ⟨by rfl, ?_⟩) hS ?_
    rotate_left
    · (intro w hSw; (try dsimp only at hSw); go_simp; try with_reducible rfl)
    simp only [Act.put, List.setIfInBounds_toArray, List.set_cons_zero, List.set_cons_succ]
    refine wpAnyH_take (i := 10) (oi := ⟨some 96, Op.load 9 (.tmp 95), _, _, _, _⟩) (v := ?_) rfl (by kernel_rfl) (by kernel_rfl) (by kernel_rfl) (fun _ _ _ h => h) (Or.inl ⟨by rfl, ?_⟩) hS ?_
    rotate_left
    · (rintro w ⟨_, hSw⟩; go_simp; try with_reducible rfl)
    simp only [Act.put, List.setIfInBounds_toArray, List.set_cons_zero, List.set_cons_succ]
    refine held_calls (i := 11) (o := ⟨some 97, Op.call { callee := .value (.func 34), args := #[.tmp 10, .tmp 92, .tmp 96], argTypes := #[70, 22, 9] }, _, _, _, _⟩) (by kernel_rfl) rfl (by kernel_rfl) (by go_simp) (calls_put X.out (by simp) b.nicA f0 HA.out.1.1 HA.out.1.2 HA.out.2.1) ?_
    rintro v' wq ⟨hv', X'⟩
    rw [HA.out.2.2] at hv'
    subst hv'
    replace X := Lib.hid X'
    clear X'
    refine ⟨⟨X.out.b5, HF0.out ▸ own_cell X.out.r2 0 h0⟩, fun hS => ?_⟩
    simp only [Act.put, List.setIfInBounds_toArray, List.set_cons_zero, List.set_cons_succ]
    refine wpAnyH_take (i := 12) (oi := ⟨some 98, Op.pick (.tmp 90) (.tmp 97) (.const (.bool false)), _, _, _, _⟩) (v := ?_) rfl (by kernel_rfl) (by kernel_rfl) (by kernel_rfl) (fun _ _ _ h => h) (Or.inl ⟨by rfl, ?_⟩) hS ?_
    rotate_left
    · (intro w hSw; (try dsimp only at hSw); go_simp; try with_reducible rfl)
    simp only [Act.put, List.setIfInBounds_toArray, List.set_cons_zero, List.set_cons_succ]
    refine wpAnyH_done (by kernel_rfl) ?_ _
    have hc1 : (1 : Int) ≤ F.length := by omega
    have hc2 : (1 : Int) ≤ c := by omega
    by_cases hc0 : c = 1
    · subst hc0
      go_upto_region 21 with (first | (with_reducible refine wpList_load_by rfl rfl (Box.rd_fr X.out.b5) rfl ?_) | (with_reducible refine Box.w_fr X.out.b5 rfl rfl rfl rfl ?_; intro wy hwy; have X := Lib.hid (X.out.p5 hwy); clear hwy) | fail)
      refine wp_region_held (S := fun w => Box w W.heap.size (b.at (some ⟨gr, 0, none⟩) 0 0) ∧ w.heap[z]? = some (.cells (ramC (.slice p2 D.length c2) (.slice q2 M.length d2) E) 49 (0, 0))) (by kernel_rfl) ?_
      have hdr : { wy with drawn := wy.drawn + 1 } = wy.drew := rfl
      rw [hdr]
      clear hdr
      replace X := Lib.hid (X.out.next (Below.refl _ _).drew)
      generalize wy.drew = wz at X ⊢
      have hS : Box wz W.heap.size (b.at (some ⟨gr, 0, none⟩) 0 0) ∧ wz.heap[z]? = some (.cells (ramC (.slice p2 D.length c2) (.slice q2 M.length d2) E) 49 (0, 0)) := ⟨X.out.b5, X.out.g0⟩
      refine wpAnyH_take (i := 0) (oi := ⟨some 115, Op.load 30 (.tmp 3), _, _, _, none⟩) (v := _) rfl (by kernel_rfl) (by kernel_rfl) (by kernel_rfl) (fun _ _ _ h => h) (yields_load rfl rfl rfl (fun w hw => hw.1.load)) hS ?_
      simp only [Act.put, List.setIfInBounds_toArray, List.set_cons_zero, List.set_cons_succ]
      refine wpAnyH_take (i := 1) (oi := ⟨some 116, Op.load 49 (.tmp 10), _, _, _, none⟩) (v := _) rfl (by kernel_rfl) (by kernel_rfl) (by kernel_rfl) (fun _ _ _ h => h) (yields_load rfl rfl rfl (fun w hw => ram_load hw.2)) hS ?_
      simp only [Act.put, List.setIfInBounds_toArray, List.set_cons_zero, List.set_cons_succ]
      refine held_store (i := 2) (o := ⟨none, Op.store 30 (.tmp 6) (.tmp 115), _, _, _, none⟩) (by kernel_rfl) rfl rfl rfl rfl rfl (store_box _ _ _ _ X.out.b2 (bdC_size _)) (⟨(X.out.p2 (cs' := bdC (b.at (some ⟨gr, 0, none⟩) 0 0)) rfl).b5, (X.out.p2 (cs' := bdC (b.at (some ⟨gr, 0, none⟩) 0 0)) rfl).g0⟩) ?_
      simp only [Act.put]
      replace X := Lib.hid (X.out.p2 (cs' := bdC (b.at (some ⟨gr, 0, none⟩) 0 0)) rfl)
      refine held_store (i := 3) (o := ⟨none, Op.store 49 (.tmp 7) (.tmp 116), _, _, _, none⟩) (by kernel_rfl) rfl rfl rfl rfl rfl (ram_store X.out.g1 rfl) (⟨(X.out.p1 (cs' := (ramC (.slice p2 D.length c2) (.slice q2 M.length d2) E)) rfl).b5, (X.out.p1 (cs' := (ramC (.slice p2 D.length c2) (.slice q2 M.length d2) E)) rfl).g0⟩) ?_
      simp only [Act.put]
      replace X := Lib.hid (X.out.p1 (cs' := (ramC (.slice p2 D.length c2) (.slice q2 M.length d2) E)) rfl)
      replace hS := And.intro X.out.b5 X.out.g0
      refine wpAnyH_take (i := 4) (oi := ⟨some 8, Op.assign (.const (.string ⟨#[]⟩)), _, _, _, none⟩) (v := ?_) rfl (by kernel_rfl) (by kernel_rfl) (by kernel_rfl) (fun _ _ _ h => h) (Or.inl ⟨by rfl, ?_⟩) hS ?_
      rotate_left
      · (intro w hSw; (try dsimp only at hSw); go_simp; try with_reducible rfl)
      simp only [Act.put, List.setIfInBounds_toArray, List.set_cons_zero, List.set_cons_succ]
      refine wpAnyH_take (i := 5) (oi := ⟨some 9, Op.assign (.const (.bool false)), _, _, _, none⟩) (v := ?_) rfl (by kernel_rfl) (by kernel_rfl) (by kernel_rfl) (fun _ _ _ h => h) (Or.inl ⟨by rfl, ?_⟩) hS ?_
      rotate_left
      · (intro w hSw; (try dsimp only at hSw); go_simp; try with_reducible rfl)
      simp only [Act.put, List.setIfInBounds_toArray, List.set_cons_zero, List.set_cons_succ]
      refine wpAnyH_done (by kernel_rfl) ?_ _
      go_wp2_with fail
      exact bodyPost_ret (v := .tuple #[bdV (b.at (some ⟨gr, 0, none⟩) 0 0), .agg (ramC (.slice p2 D.length c2) (.slice q2 M.length d2) E), .string (⟨#[]⟩), .bool false]) (results_act Try.results21 _ _ (W.heap.size + 1 + 1 + 1) (W.heap.size + 1 + 1 + 1 + 1) _ _ _ _ _ _ rfl X.out.b2 rfl X.out.g1 rfl rfl) rfl ⟨_, _, _, _, by rw [show F.tail.length = 0 from by rw [List.length_tail]; omega], tail_none (by omega), reads_of_owns X.out.r1, reads_of_owns X.out.r0, X.out.below⟩
    · go_upto_region 21 with (first | (with_reducible refine wpList_load_by rfl rfl (Box.rd_fr X.out.b5) rfl ?_) | (with_reducible refine Box.w_fr X.out.b5 rfl rfl rfl rfl ?_; intro wy hwy; have X := Lib.hid (X.out.p5 hwy); clear hwy) | fail)
      refine wp_region_held (S := fun w => Box w W.heap.size (b.at (some ⟨gr, 1, none⟩) (F.length - 1) (c - 1)) ∧ w.heap[z]? = some (.cells (ramC (.slice p2 D.length c2) (.slice q2 M.length d2) E) 49 (0, 0))) (by kernel_rfl) ?_
      have hdr : { wy with drawn := wy.drawn + 1 } = wy.drew := rfl
      rw [hdr]
      clear hdr
      replace X := Lib.hid (X.out.next (Below.refl _ _).drew)
      generalize wy.drew = wz at X ⊢
      have hS : Box wz W.heap.size (b.at (some ⟨gr, 1, none⟩) (F.length - 1) (c - 1)) ∧ wz.heap[z]? = some (.cells (ramC (.slice p2 D.length c2) (.slice q2 M.length d2) E) 49 (0, 0)) := ⟨X.out.b5, X.out.g0⟩
      refine wpAnyH_take (i := 0) (oi := ⟨some 115, Op.load 30 (.tmp 3), _, _, _, none⟩) (v := _) rfl (by kernel_rfl) (by kernel_rfl) (by kernel_rfl) (fun _ _ _ h => h) (yields_load rfl rfl rfl (fun w hw => hw.1.load)) hS ?_
      simp only [Act.put, List.setIfInBounds_toArray, List.set_cons_zero, List.set_cons_succ]
      refine wpAnyH_take (i := 1) (oi := ⟨some 116, Op.load 49 (.tmp 10), _, _, _, none⟩) (v := _) rfl (by kernel_rfl) (by kernel_rfl) (by kernel_rfl) (fun _ _ _ h => h) (yields_load rfl rfl rfl (fun w hw => ram_load hw.2)) hS ?_
      simp only [Act.put, List.setIfInBounds_toArray, List.set_cons_zero, List.set_cons_succ]
      refine held_store (i := 2) (o := ⟨none, Op.store 30 (.tmp 6) (.tmp 115), _, _, _, none⟩) (by kernel_rfl) rfl rfl rfl rfl rfl (store_box _ _ _ _ X.out.b2 (bdC_size _)) (⟨(X.out.p2 (cs' := bdC (b.at (some ⟨gr, 1, none⟩) (F.length - 1) (c - 1))) rfl).b5, (X.out.p2 (cs' := bdC (b.at (some ⟨gr, 1, none⟩) (F.length - 1) (c - 1))) rfl).g0⟩) ?_
      simp only [Act.put]
      replace X := Lib.hid (X.out.p2 (cs' := bdC (b.at (some ⟨gr, 1, none⟩) (F.length - 1) (c - 1))) rfl)
      refine held_store (i := 3) (o := ⟨none, Op.store 49 (.tmp 7) (.tmp 116), _, _, _, none⟩) (by kernel_rfl) rfl rfl rfl rfl rfl (ram_store X.out.g1 rfl) (⟨(X.out.p1 (cs' := (ramC (.slice p2 D.length c2) (.slice q2 M.length d2) E)) rfl).b5, (X.out.p1 (cs' := (ramC (.slice p2 D.length c2) (.slice q2 M.length d2) E)) rfl).g0⟩) ?_
      simp only [Act.put]
      replace X := Lib.hid (X.out.p1 (cs' := (ramC (.slice p2 D.length c2) (.slice q2 M.length d2) E)) rfl)
      replace hS := And.intro X.out.b5 X.out.g0
      refine wpAnyH_take (i := 4) (oi := ⟨some 8, Op.assign (.const (.string ⟨#[]⟩)), _, _, _, none⟩) (v := ?_) rfl (by kernel_rfl) (by kernel_rfl) (by kernel_rfl) (fun _ _ _ h => h) (Or.inl ⟨by rfl, ?_⟩) hS ?_
      rotate_left
      · (intro w hSw; (try dsimp only at hSw); go_simp; try with_reducible rfl)
      simp only [Act.put, List.setIfInBounds_toArray, List.set_cons_zero, List.set_cons_succ]
      refine wpAnyH_take (i := 5) (oi := ⟨some 9, Op.assign (.const (.bool false)), _, _, _, none⟩) (v := ?_) rfl (by kernel_rfl) (by kernel_rfl) (by kernel_rfl) (fun _ _ _ h => h) (Or.inl ⟨by rfl, ?_⟩) hS ?_
      rotate_left
      · (intro w hSw; (try dsimp only at hSw); go_simp; try with_reducible rfl)
      simp only [Act.put, List.setIfInBounds_toArray, List.set_cons_zero, List.set_cons_succ]
      refine wpAnyH_done (by kernel_rfl) ?_ _
      go_wp2_with fail
      exact bodyPost_ret (v := .tuple #[bdV (b.at (some ⟨gr, 1, none⟩) (F.length - 1) (c - 1)), .agg (ramC (.slice p2 D.length c2) (.slice q2 M.length d2) E), .string (⟨#[]⟩), .bool false]) (results_act Try.results21 _ _ (W.heap.size + 1 + 1 + 1) (W.heap.size + 1 + 1 + 1 + 1) _ _ _ _ _ _ rfl X.out.b2 rfl X.out.g1 rfl rfl) rfl ⟨_, _, _, _, by rw [List.length_tail], tail_fat X.out.r2 h0 hFc hFm, reads_of_owns X.out.r1, reads_of_owns X.out.r0, X.out.below⟩

end Go.Proofs.Ytmbaimcneffnlaa
