/- Act: the disk is read. -/
import Derived.Test.YtmbaimcneffnlaaAE
namespace Go.Proofs.Ytmbaimcneffnlaa
open Go.RowKit Go.Deep Go.Joins
set_option maxRecDepth 100000 in
set_option maxHeartbeats 2000000 in
theorem act_rbad (b : Bd) (F : List ByteArray) (p1 q1 : Option Addr) (c1 d1 : Nat) (E : Int) (es : ByteArray) (D : List UInt8) (M : List Int)  (W : World) (hf : FAt W (.slice b.fp b.fn b.fc) F) (hF : F.length ≤ 8796093022208) (hd : DAt W (.slice p1 D.length c1) D) (hm : MAt W (.slice q1 M.length d1) M) (hD : D.length ≤ 140737488351232) (hM : M.length ≤ 17592186043904)(h16 : 16 ≤ b.sector) : Calls Try.prog 21 #[bdV b, .agg (ramC (.slice p1 D.length c1) (.slice q1 M.length d1) E), .agg #[.int .i64 2, .string es]] W (Acted W ({ b with done := true, bad := true }) (F) E (D) (M) (⟨#[]⟩) (false)) := by
  have HFR := Lib.hid (fun W' (h : Below W.heap.size W W') => hf.next h)
  have HDD := Lib.hid (fun W' (h : Below W.heap.size W W') => hd.below h)
  have HMM := Lib.hid (fun W' (h : Below W.heap.size W W') => hm.below h)
  have HSZ := Lib.hid (And.intro hF (And.intro hD hM))
  clear hf hF hd hm hD hM
  have hsec : decide ((16 : Int) ≤ b.sector) = true := decide_eq_true h16
  clear h16
  go_enter Try.func21, Try.ntmps21
  have X := Lib.hid (act_start W b p1 q1 D.length M.length c1 d1 E 2 es)
  go_upto_region 1 with (fail)
  generalize ((((W.alloc (bdO b)).alloc (.cells (ramC (.slice p1 D.length c1) (.slice q1 M.length d1) E) 49)).alloc (.cells #[.int .i64 2, .string es] 42)).alloc zeroO).alloc ramZO = wr at X ⊢
  go_cut [10] (fun s10 wx => ∃ (z : Nat) (p : Option Addr) (c : Nat) (p2 : Option Addr) (c2 : Nat) (q2 : Option Addr) (d2 : Nat), s10 = .pointer (some ⟨z, 0, none⟩) ∧ RowKit.Hid (Mem W wx [(z, ramC (.slice p2 D.length c2) (.slice q2 M.length d2) E, 49), (W.heap.size + 1 + 1 + 1 + 1, ramZC, 49), (W.heap.size + 1 + 1 + 1, bdC bdZ, 30), (W.heap.size + 1 + 1, #[.int .i64 2, .string es], 42), (W.heap.size + 1, (ramC (.slice p1 D.length c1) (.slice q1 M.length d1) E), 49), (W.heap.size, bdC (b.at p F.length c), 30)] [(22, .slice q2 M.length d2, M.length, mC M), (5, .slice p2 D.length c2, D.length, dC D), (9, .slice p F.length c, F.length, sC F)]))
  case first =>
    refine wp_region_held (S := fun w => w.heap[W.heap.size + 1]? = some (.cells (ramC (.slice p1 D.length c1) (.slice q1 M.length d1) E) 49 (0, 0))) (by kernel_rfl) ?_
    have hdr : { wr with drawn := wr.drawn + 1 } = wr.drew := rfl
    rw [hdr]
    clear hdr
    replace X := Lib.hid (X.out.next (Below.refl _ _).drew)
    generalize wr.drew = wz at X ⊢
    have hS : wz.heap[W.heap.size + 1]? = some (.cells (ramC (.slice p1 D.length c1) (.slice q1 M.length d1) E) 49 (0, 0)) := X.out.g3
    refine wpAnyH_take (i := 2) (oi := ⟨some 18, Op.load 49 (.tmp 4), _, _, _, none⟩) (v := _) rfl (by kernel_rfl) (by kernel_rfl) (by kernel_rfl) (fun _ _ _ h => h) (yields_load rfl rfl rfl (fun w hw => ram_load hw)) hS ?_
    simp only [Act.put, List.setIfInBounds_toArray, List.set_cons_zero, List.set_cons_succ]
    refine wpAnyH_ready (rs := [0, 4]) (by kernel_rfl) (by simp) ?_
    refine cons_op (i := 0) (o := ⟨some 16, Op.load 30 (.tmp 3), _, _, _, _⟩) (w' := _) rfl rfl (exec_load rfl (Box.load X.out.b4) rfl) hS ?_ ?_
    · simp only [Act.put, List.setIfInBounds_toArray, List.set_cons_zero, List.set_cons_succ]
      refine wpAnyH_ready (rs := [1, 4]) (by kernel_rfl) (by simp) ?_
      refine cons_calls (i := 1) (o := ⟨some 17, Op.call { callee := .value (.func 20), args := #[.tmp 16], argTypes := #[30] }, _, _, _, _⟩) rfl (by kernel_rfl) (by go_simp) (calls_copied (copy_bd b F _ (HFR.out _ X.out.below) HSZ.out.1)) ?_ ?_
      · rintro v' w' ⟨p, c, hv', ho, kk⟩
        subst hv'
        replace X := Lib.hid ((X.out.next kk).addrow ho X.out.below.size (by decide))
        refine ⟨X.out.g3, fun hS => ?_⟩
        clear ho kk
        simp only [Act.put, List.setIfInBounds_toArray, List.set_cons_zero, List.set_cons_succ]
        refine wpAnyH_ready (rs := [3, 4]) (by kernel_rfl) (by simp) ?_
        refine cons_calls (i := 3) (o := ⟨some 19, Op.call { callee := .value (.func 33), args := #[.tmp 18], argTypes := #[49] }, _, _, _, _⟩) rfl (by kernel_rfl) (by go_simp) (calls_mem (copy_any _ _ E D M _ (HDD.out _ X.out.below) (HMM.out _ X.out.below) HSZ.out.2.1 HSZ.out.2.2)) ?_ ?_
        · rintro v' w' ⟨p2, c2, q2, d2, hv', ho, ho2, kk⟩
          subst hv'
          replace X := Lib.hid (((X.out.next kk).addrow ho X.out.below.size (by decide)).addrow ho2 X.out.below.size (by decide))
          refine ⟨X.out.g3, fun hS => ?_⟩
          clear ho ho2 kk
          simp only [Act.put, List.setIfInBounds_toArray, List.set_cons_zero, List.set_cons_succ]
          refine held_op (i := 4) (o := ⟨some 10, Op.alloc 49, _, _, _, _⟩) (w' := w'.alloc ramZO) (v := .pointer (some ⟨w'.heap.size, 0, none⟩)) (by kernel_rfl) rfl rfl (by go_simp) X.out.newR.g4 ?_
          simp only [Act.put, List.setIfInBounds_toArray, List.set_cons_zero, List.set_cons_succ]
          replace X := Lib.hid X.out.newR
          have hS := X.out.g4
          generalize hz : w'.heap.size = z at X ⊢
          clear hz
          generalize w'.alloc ramZO = wn at X hS ⊢
          refine held_store (i := 5) (o := ⟨none, Op.store 30 (.tmp 3) (.tmp 17), _, _, _, none⟩) (by kernel_rfl) rfl rfl rfl rfl rfl (store_box _ _ _ _ X.out.b5 (bdC_size _)) (X.out.p5 (cs' := bdC (b.at p F.length c)) rfl).g4 ?_
          simp only [Act.put]
          replace X := Lib.hid (X.out.p5 (cs' := bdC (b.at p F.length c)) rfl)
          replace hS := X.out.g4
          refine held_store (i := 6) (o := ⟨none, Op.store 49 (.tmp 10) (.tmp 19), _, _, _, none⟩) (by kernel_rfl) rfl rfl rfl rfl rfl (ram_store X.out.g0 rfl) (X.out.p0 (cs' := ramC (.slice p2 D.length c2) (.slice q2 M.length d2) E) rfl).g4 ?_
          simp only [Act.put]
          replace X := Lib.hid (X.out.p0 (cs' := ramC (.slice p2 D.length c2) (.slice q2 M.length d2) E) rfl)
          refine wpAnyH_done (by kernel_rfl) ?_ _
          go_wp2_with fail
          go_meet
          exact ⟨_, p, c, p2, c2, q2, d2, rfl, X⟩
        refine cons_op (i := 4) (o := ⟨some 10, Op.alloc 49, _, _, _, _⟩) (w' := w'.alloc ramZO) (v := .pointer (some ⟨w'.heap.size, 0, none⟩)) rfl rfl (by go_simp) X.out.newR.g4 ?_ AllReadyH.nil
        simp only [Act.put, List.setIfInBounds_toArray, List.set_cons_zero, List.set_cons_succ]
        replace X := Lib.hid X.out.newR
        have hS := X.out.g4
        generalize hz : w'.heap.size = z at X ⊢
        clear hz
        generalize w'.alloc ramZO = wn at X hS ⊢
        refine held_calls (i := 3) (o := ⟨some 19, Op.call { callee := .value (.func 33), args := #[.tmp 18], argTypes := #[49] }, _, _, _, _⟩) (by kernel_rfl) rfl (by kernel_rfl) (by go_simp) (calls_mem (copy_any _ _ E D M _ (HDD.out _ X.out.below) (HMM.out _ X.out.below) HSZ.out.2.1 HSZ.out.2.2)) ?_
        rintro v' w' ⟨p2, c2, q2, d2, hv', ho, ho2, kk⟩
        subst hv'
        replace X := Lib.hid (((X.out.next kk).addrow ho X.out.below.size (by decide)).addrow ho2 X.out.below.size (by decide))
        refine ⟨X.out.g4, fun hS => ?_⟩
        clear ho ho2 kk
        simp only [Act.put, List.setIfInBounds_toArray, List.set_cons_zero, List.set_cons_succ]
        refine held_store (i := 5) (o := ⟨none, Op.store 30 (.tmp 3) (.tmp 17), _, _, _, none⟩) (by kernel_rfl) rfl rfl rfl rfl rfl (store_box _ _ _ _ X.out.b5 (bdC_size _)) (X.out.p5 (cs' := bdC (b.at p F.length c)) rfl).g4 ?_
        simp only [Act.put]
        replace X := Lib.hid (X.out.p5 (cs' := bdC (b.at p F.length c)) rfl)
        replace hS := X.out.g4
        refine held_store (i := 6) (o := ⟨none, Op.store 49 (.tmp 10) (.tmp 19), _, _, _, none⟩) (by kernel_rfl) rfl rfl rfl rfl rfl (ram_store X.out.g0 rfl) (X.out.p0 (cs' := ramC (.slice p2 D.length c2) (.slice q2 M.length d2) E) rfl).g4 ?_
        simp only [Act.put]
        replace X := Lib.hid (X.out.p0 (cs' := ramC (.slice p2 D.length c2) (.slice q2 M.length d2) E) rfl)
        refine wpAnyH_done (by kernel_rfl) ?_ _
        go_wp2_with fail
        go_meet
        exact ⟨_, p, c, p2, c2, q2, d2, rfl, X⟩
      refine cons_op (i := 4) (o := ⟨some 10, Op.alloc 49, _, _, _, _⟩) (w' := wz.alloc ramZO) (v := .pointer (some ⟨wz.heap.size, 0, none⟩)) rfl rfl (by go_simp) X.out.newR.g4 ?_ AllReadyH.nil
      simp only [Act.put, List.setIfInBounds_toArray, List.set_cons_zero, List.set_cons_succ]
      replace X := Lib.hid X.out.newR
      have hS := X.out.g4
      generalize hz : wz.heap.size = z at X ⊢
      clear hz
      generalize wz.alloc ramZO = wn at X hS ⊢
      refine held_calls (i := 1) (o := ⟨some 17, Op.call { callee := .value (.func 20), args := #[.tmp 16], argTypes := #[30] }, _, _, _, _⟩) (by kernel_rfl) rfl (by kernel_rfl) (by go_simp) (calls_copied (copy_bd b F _ (HFR.out _ X.out.below) HSZ.out.1)) ?_
      rintro v' w' ⟨p, c, hv', ho, kk⟩
      subst hv'
      replace X := Lib.hid ((X.out.next kk).addrow ho X.out.below.size (by decide))
      refine ⟨X.out.g4, fun hS => ?_⟩
      clear ho kk
      simp only [Act.put, List.setIfInBounds_toArray, List.set_cons_zero, List.set_cons_succ]
      refine held_calls (i := 3) (o := ⟨some 19, Op.call { callee := .value (.func 33), args := #[.tmp 18], argTypes := #[49] }, _, _, _, _⟩) (by kernel_rfl) rfl (by kernel_rfl) (by go_simp) (calls_mem (copy_any _ _ E D M _ (HDD.out _ X.out.below) (HMM.out _ X.out.below) HSZ.out.2.1 HSZ.out.2.2)) ?_
      rintro v' w' ⟨p2, c2, q2, d2, hv', ho, ho2, kk⟩
      subst hv'
      replace X := Lib.hid (((X.out.next kk).addrow ho X.out.below.size (by decide)).addrow ho2 X.out.below.size (by decide))
      refine ⟨X.out.g4, fun hS => ?_⟩
      clear ho ho2 kk
      simp only [Act.put, List.setIfInBounds_toArray, List.set_cons_zero, List.set_cons_succ]
      refine held_store (i := 5) (o := ⟨none, Op.store 30 (.tmp 3) (.tmp 17), _, _, _, none⟩) (by kernel_rfl) rfl rfl rfl rfl rfl (store_box _ _ _ _ X.out.b5 (bdC_size _)) (X.out.p5 (cs' := bdC (b.at p F.length c)) rfl).g4 ?_
      simp only [Act.put]
      replace X := Lib.hid (X.out.p5 (cs' := bdC (b.at p F.length c)) rfl)
      replace hS := X.out.g4
      refine held_store (i := 6) (o := ⟨none, Op.store 49 (.tmp 10) (.tmp 19), _, _, _, none⟩) (by kernel_rfl) rfl rfl rfl rfl rfl (ram_store X.out.g0 rfl) (X.out.p0 (cs' := ramC (.slice p2 D.length c2) (.slice q2 M.length d2) E) rfl).g4 ?_
      simp only [Act.put]
      replace X := Lib.hid (X.out.p0 (cs' := ramC (.slice p2 D.length c2) (.slice q2 M.length d2) E) rfl)
      refine wpAnyH_done (by kernel_rfl) ?_ _
      go_wp2_with fail
      go_meet
      exact ⟨_, p, c, p2, c2, q2, d2, rfl, X⟩
    refine cons_op (i := 4) (o := ⟨some 10, Op.alloc 49, _, _, _, _⟩) (w' := wz.alloc ramZO) (v := .pointer (some ⟨wz.heap.size, 0, none⟩)) rfl rfl (by go_simp) X.out.newR.g4 ?_ AllReadyH.nil
    simp only [Act.put, List.setIfInBounds_toArray, List.set_cons_zero, List.set_cons_succ]
    replace X := Lib.hid X.out.newR
    have hS := X.out.g4
    generalize hz : wz.heap.size = z at X ⊢
    clear hz
    generalize wz.alloc ramZO = wn at X hS ⊢
    refine held_op (i := 0) (o := ⟨some 16, Op.load 30 (.tmp 3), _, _, _, _⟩) (w' := _) (by kernel_rfl) rfl rfl (exec_load rfl (Box.load X.out.b5) rfl) hS ?_
    simp only [Act.put, List.setIfInBounds_toArray, List.set_cons_zero, List.set_cons_succ]
    refine held_calls (i := 1) (o := ⟨some 17, Op.call { callee := .value (.func 20), args := #[.tmp 16], argTypes := #[30] }, _, _, _, _⟩) (by kernel_rfl) rfl (by kernel_rfl) (by go_simp) (calls_copied (copy_bd b F _ (HFR.out _ X.out.below) HSZ.out.1)) ?_
    rintro v' w' ⟨p, c, hv', ho, kk⟩
    subst hv'
    replace X := Lib.hid ((X.out.next kk).addrow ho X.out.below.size (by decide))
    refine ⟨X.out.g4, fun hS => ?_⟩
    clear ho kk
    simp only [Act.put, List.setIfInBounds_toArray, List.set_cons_zero, List.set_cons_succ]
    refine held_calls (i := 3) (o := ⟨some 19, Op.call { callee := .value (.func 33), args := #[.tmp 18], argTypes := #[49] }, _, _, _, _⟩) (by kernel_rfl) rfl (by kernel_rfl) (by go_simp) (calls_mem (copy_any _ _ E D M _ (HDD.out _ X.out.below) (HMM.out _ X.out.below) HSZ.out.2.1 HSZ.out.2.2)) ?_
    rintro v' w' ⟨p2, c2, q2, d2, hv', ho, ho2, kk⟩
    subst hv'
    replace X := Lib.hid (((X.out.next kk).addrow ho X.out.below.size (by decide)).addrow ho2 X.out.below.size (by decide))
    refine ⟨X.out.g4, fun hS => ?_⟩
    clear ho ho2 kk
    simp only [Act.put, List.setIfInBounds_toArray, List.set_cons_zero, List.set_cons_succ]
    refine held_store (i := 5) (o := ⟨none, Op.store 30 (.tmp 3) (.tmp 17), _, _, _, none⟩) (by kernel_rfl) rfl rfl rfl rfl rfl (store_box _ _ _ _ X.out.b5 (bdC_size _)) (X.out.p5 (cs' := bdC (b.at p F.length c)) rfl).g4 ?_
    simp only [Act.put]
    replace X := Lib.hid (X.out.p5 (cs' := bdC (b.at p F.length c)) rfl)
    replace hS := X.out.g4
    refine held_store (i := 6) (o := ⟨none, Op.store 49 (.tmp 10) (.tmp 19), _, _, _, none⟩) (by kernel_rfl) rfl rfl rfl rfl rfl (ram_store X.out.g0 rfl) (X.out.p0 (cs' := ramC (.slice p2 D.length c2) (.slice q2 M.length d2) E) rfl).g4 ?_
    simp only [Act.put]
    replace X := Lib.hid (X.out.p0 (cs' := ramC (.slice p2 D.length c2) (.slice q2 M.length d2) E) rfl)
    refine wpAnyH_done (by kernel_rfl) ?_ _
    go_wp2_with fail
    go_meet
    exact ⟨_, p, c, p2, c2, q2, d2, rfl, X⟩
  case rest =>
    clear X HFR HDD HMM HSZ
    obtain ⟨z, p, c, p2, c2, q2, d2, rfl, X⟩ := hcut
    have m_k : wc.cell? ⟨W.heap.size + 1 + 1, 0, none⟩ = some (.int .i64 2) := cell_of_row _ _ 0 _ 42 (0, 0) X.out.g3
    have m_s : wc.cell? ⟨W.heap.size + 1 + 1, 1, none⟩ = some (.string es) := cell_of_row _ _ 1 _ 42 (0, 0) X.out.g3
    go_upto_region 7 with (first | (with_reducible refine Box.w_done X.out.b5 rfl rfl rfl rfl ?_; intro wb hwy; have X := Lib.hid (X.out.p5 (cs' := bdC (({ b with done := true } : Bd).at p F.length c)) hwy); clear hwy) | fail)
    clear m_k m_s
    refine wp_region_held (S := fun _ => True) (by kernel_rfl) ?_
    have hdr : { wb with drawn := wb.drawn + 1 } = wb.drew := rfl
    rw [hdr]
    clear hdr
    replace X := Lib.hid (X.out.next (Below.refl _ _).drew)
    generalize wb.drew = wz at X ⊢
    have hS : True := trivial
    refine wpAnyH_take (i := 0) (oi := ⟨some 31, Op.fieldAddr 30 (.tmp 3) 5, _, _, _, _⟩) (v := ?_) rfl (by kernel_rfl) (by kernel_rfl) (by kernel_rfl) (fun _ _ _ h => h) (Or.inl ⟨by rfl, ?_⟩) hS ?_
    rotate_left
    · (intro w hSw; (try dsimp only at hSw); go_simp; try with_reducible rfl)
    simp only [Act.put, List.setIfInBounds_toArray, List.set_cons_zero, List.set_cons_succ]
    refine held_op (i := 1) (o := ⟨some 32, Op.load 22 (.tmp 31), _, _, _, _⟩) (w' := _) (by kernel_rfl) rfl rfl (exec_load rfl (Box.at_sector X.out.b5) rfl) trivial ?_
    simp only [Act.put, List.setIfInBounds_toArray, List.set_cons_zero, List.set_cons_succ]
    refine wpAnyH_take (i := 2) (oi := ⟨some 33, Op.binOp .geq 22 (.tmp 32) (.const (.int .u64 16)) 22, _, _, _, _⟩) (v := ?_) rfl (by kernel_rfl) (by kernel_rfl) (by kernel_rfl) (fun _ _ _ h => h) (Or.inl ⟨by rfl, ?_⟩) hS ?_
    rotate_left
    · (intro w hSw; (try dsimp only at hSw); go_simp; try with_reducible rfl)
    simp only [Act.put, List.setIfInBounds_toArray, List.set_cons_zero, List.set_cons_succ]
    refine wpAnyH_take (i := 3) (oi := ⟨some 34, Op.move (.tmp 33), _, _, _, _⟩) (v := ?_) rfl (by kernel_rfl) (by kernel_rfl) (by kernel_rfl) (fun _ _ _ h => h) (Or.inl ⟨by rfl, ?_⟩) hS ?_
    rotate_left
    · (intro w hSw; (try dsimp only at hSw); go_simp; try with_reducible rfl)
    simp only [Act.put, List.setIfInBounds_toArray, List.set_cons_zero, List.set_cons_succ]
    refine wpAnyH_take (i := 4) (oi := ⟨some 35, Op.fieldAddr 30 (.tmp 3) 6, _, _, _, _⟩) (v := undef) rfl (by kernel_rfl) (by kernel_rfl) (by kernel_rfl) (fun _ _ _ h => h) (Or.inr ⟨by rfl, rfl⟩) hS ?_
    simp only [Act.put, List.setIfInBounds_toArray, List.set_cons_zero, List.set_cons_succ]
    refine wpAnyH_take (i := 5) (oi := ⟨some 36, Op.load 22 (.tmp 35), _, _, _, _⟩) (v := undef) rfl (by kernel_rfl) (by kernel_rfl) (by kernel_rfl) (fun _ _ _ h => h) (Or.inr ⟨by rfl, rfl⟩) hS ?_
    simp only [Act.put, List.setIfInBounds_toArray, List.set_cons_zero, List.set_cons_succ]
    refine wpAnyH_take (i := 6) (oi := ⟨some 37, Op.load 30 (.tmp 3), _, _, _, _⟩) (v := undef) rfl (by kernel_rfl) (by kernel_rfl) (by kernel_rfl) (fun _ _ _ h => h) (Or.inr ⟨by rfl, rfl⟩) hS ?_
    simp only [Act.put, List.setIfInBounds_toArray, List.set_cons_zero, List.set_cons_succ]
    refine wpAnyH_take (i := 7) (oi := ⟨some 38, Op.call { callee := .value (.func 35), args := #[.tmp 37], argTypes := #[30] }, _, _, _, _⟩) (v := undef) rfl (by kernel_rfl) (by kernel_rfl) (by kernel_rfl) (fun _ _ _ h => h) (Or.inr ⟨by rfl, rfl⟩) hS ?_
    simp only [Act.put, List.setIfInBounds_toArray, List.set_cons_zero, List.set_cons_succ]
    refine wpAnyH_take (i := 8) (oi := ⟨some 39, Op.call { callee := .value (.func 34), args := #[.tmp 10, .tmp 36, .tmp 38], argTypes := #[70, 22, 9] }, _, _, _, _⟩) (v := undef) rfl (by kernel_rfl) (by kernel_rfl) (by kernel_rfl) (fun _ _ _ h => h) (Or.inr ⟨by rfl, rfl⟩) hS ?_
    simp only [Act.put, List.setIfInBounds_toArray, List.set_cons_zero, List.set_cons_succ]
    refine wpAnyH_take (i := 9) (oi := ⟨some 40, Op.unOp .not 4 (.tmp 39), _, _, _, _⟩) (v := undef) rfl (by kernel_rfl) (by kernel_rfl) (by kernel_rfl) (fun _ _ _ h => h) (Or.inr ⟨by rfl, rfl⟩) hS ?_
    simp only [Act.put, List.setIfInBounds_toArray, List.set_cons_zero, List.set_cons_succ]
    refine wpAnyH_take (i := 10) (oi := ⟨some 41, Op.pick (.tmp 34) (.const (.bool true)) (.tmp 40), _, _, _, _⟩) (v := ?_) rfl (by kernel_rfl) (by kernel_rfl) (by kernel_rfl) (fun _ _ _ h => h) (Or.inl ⟨by rfl, ?_⟩) hS ?_
    rotate_left
    · (intro w hSw; (try dsimp only at hSw); go_simp; try with_reducible rfl)
    simp only [Act.put, List.setIfInBounds_toArray, List.set_cons_zero, List.set_cons_succ]
    refine wpAnyH_take (i := 11) (oi := ⟨some 42, Op.fieldAddr 30 (.tmp 3) 8, _, _, _, _⟩) (v := ?_) rfl (by kernel_rfl) (by kernel_rfl) (by kernel_rfl) (fun _ _ _ h => h) (Or.inl ⟨by rfl, ?_⟩) hS ?_
    rotate_left
    · (intro w hSw; (try dsimp only at hSw); go_simp; try with_reducible rfl)
    simp only [Act.put, List.setIfInBounds_toArray, List.set_cons_zero, List.set_cons_succ]
    refine held_store (i := 12) (o := ⟨none, Op.store 4 (.tmp 42) (.tmp 41), _, _, _, none⟩) (by kernel_rfl) rfl rfl rfl rfl rfl (show (Instr.storeAt 4 (.pointer (some ⟨W.heap.size, 8, none⟩)) (.bool true)).run Try.prog wz = .ok () (wz.setRow W.heap.size (bdC (({ b with done := true, bad := true } : Bd).at p F.length c))) from Box.store_bad X.out.b5 _) trivial ?_
    simp only [Act.put]
    replace X := Lib.hid (X.out.p5 (cs' := bdC (({ b with done := true, bad := true } : Bd).at p F.length c)) rfl)
    generalize wz.setRow W.heap.size (bdC (({ b with done := true, bad := true } : Bd).at p F.length c)) = wn at X ⊢
    refine wpAnyH_done (by kernel_rfl) ?_ _
    go_upto_region 21 with (fail)
    refine wp_region_held (S := fun w => Box w W.heap.size (({ b with done := true, bad := true } : Bd).at p F.length c) ∧ w.heap[z]? = some (.cells (ramC (.slice p2 D.length c2) (.slice q2 M.length d2) E) 49 (0, 0))) (by kernel_rfl) ?_
    have hdr : { wn with drawn := wn.drawn + 1 } = wn.drew := rfl
    rw [hdr]
    clear hdr
    replace X := Lib.hid (X.out.next (Below.refl _ _).drew)
    generalize wn.drew = wz at X ⊢
    have hS : Box wz W.heap.size (({ b with done := true, bad := true } : Bd).at p F.length c) ∧ wz.heap[z]? = some (.cells (ramC (.slice p2 D.length c2) (.slice q2 M.length d2) E) 49 (0, 0)) := ⟨X.out.b5, X.out.g0⟩
    refine wpAnyH_take (i := 0) (oi := ⟨some 115, Op.load 30 (.tmp 3), _, _, _, none⟩) (v := _) rfl (by kernel_rfl) (by kernel_rfl) (by kernel_rfl) (fun _ _ _ h => h) (yields_load rfl rfl rfl (fun w hw => hw.1.load)) hS ?_
    simp only [Act.put, List.setIfInBounds_toArray, List.set_cons_zero, List.set_cons_succ]
    refine wpAnyH_take (i := 1) (oi := ⟨some 116, Op.load 49 (.tmp 10), _, _, _, none⟩) (v := _) rfl (by kernel_rfl) (by kernel_rfl) (by kernel_rfl) (fun _ _ _ h => h) (yields_load rfl rfl rfl (fun w hw => ram_load hw.2)) hS ?_
    simp only [Act.put, List.setIfInBounds_toArray, List.set_cons_zero, List.set_cons_succ]
    refine held_store (i := 2) (o := ⟨none, Op.store 30 (.tmp 6) (.tmp 115), _, _, _, none⟩) (by kernel_rfl) rfl rfl rfl rfl rfl (store_box _ _ _ _ X.out.b2 (bdC_size _)) (⟨(X.out.p2 (cs' := bdC (({ b with done := true, bad := true } : Bd).at p F.length c)) rfl).b5, (X.out.p2 (cs' := bdC (({ b with done := true, bad := true } : Bd).at p F.length c)) rfl).g0⟩) ?_
    simp only [Act.put]
    replace X := Lib.hid (X.out.p2 (cs' := bdC (({ b with done := true, bad := true } : Bd).at p F.length c)) rfl)
    refine held_store (i := 3) (o := ⟨none, Op.store 49 (.tmp 7) (.tmp 116), _, _, _, none⟩) (by kernel_rfl) rfl rfl rfl rfl rfl (ram_store X.out.g1 rfl) (⟨(X.out.p1 (cs' := (ramC (.slice p2 D.length c2) (.slice q2 M.length d2) E)) rfl).b5, (X.out.p1 (cs' := (ramC (.slice p2 D.length c2) (.slice q2 M.length d2) E)) rfl).g0⟩) ?_
    simp only [Act.put]
    replace X := Lib.hid (X.out.p1 (cs' := (ramC (.slice p2 D.length c2) (.slice q2 M.length d2) E)) rfl)
    replace hS := And.intro X.out.b5 X.out.g0
    refine wpAnyH_take (i := 4) (oi := ⟨some 8, Op.assign (.const (.string ⟨#[]⟩)), _, _, _, none⟩) (v := ?_) rfl (by kernel_rfl) (by kernel_rfl) (by kernel_rfl) (fun _ _ _ h => h) (Or.inl ⟨by rfl, ?_⟩) hS ?_
    rotate_left
    · (intro w hSw; (try dsimp only at hSw); go_simp; try with_reducible rfl)
    simp only [Act.put, List.setIfInBounds_toArray, List.set_cons_zero, List.set_cons_succ]
    refine wpAnyH_take (i := 5) (oi := ⟨some 9, Op.assign (.const (.bool false)), _, _, _, none⟩) (v := ?_) rfl (by kernel_rfl) (by kernel_rfl) (by kernel_rfl) (fun _ _ _ h => h) (Or.inl ⟨by rfl, ?_⟩) hS ?_
    rotate_left
    · (intro w hSw; (try dsimp only at hSw); go_simp; try with_reducible rfl)
    simp only [Act.put, List.setIfInBounds_toArray, List.set_cons_zero, List.set_cons_succ]
    refine wpAnyH_done (by kernel_rfl) ?_ _
    go_wp2_with fail
    exact bodyPost_ret (v := .tuple #[bdV (({ b with done := true, bad := true } : Bd).at p F.length c), .agg (ramC (.slice p2 D.length c2) (.slice q2 M.length d2) E), .string (⟨#[]⟩), .bool false]) (results_act Try.results21 _ _ (W.heap.size + 1 + 1 + 1) (W.heap.size + 1 + 1 + 1 + 1) _ _ _ _ _ _ rfl X.out.b2 rfl X.out.g1 rfl rfl) rfl ⟨p, c, _, _, rfl, FAt.of X.out.r2, reads_of_owns X.out.r1, reads_of_owns X.out.r0, X.out.below⟩
set_option maxRecDepth 100000 in
set_option maxHeartbeats 2000000 in
theorem act_read (b : Bd) (F : List ByteArray) (p1 q1 : Option Addr) (c1 d1 : Nat) (E : Int) (es : ByteArray) (D : List UInt8) (M : List Int) (n : Nat) (W : World) (hf : FAt W (.slice b.fp b.fn b.fc) F) (hF : F.length ≤ 8796093022208) (hd : DAt W (.slice p1 D.length c1) D) (hm : MAt W (.slice q1 M.length d1) M) (hD : D.length ≤ 140737488351232) (hM : M.length ≤ 17592186043904)(ha : 0 ≤ b.addr ∧ b.addr ≤ 18446744073709551615) (hn : b.sector = n) (h16 : n < 16) (hb : hasB b = true) : Calls Try.prog 21 #[bdV b, .agg (ramC (.slice p1 D.length c1) (.slice q1 M.length d1) E), .agg #[.int .i64 2, .string es]] W (Acted W ({ b with done := true, bad := !putB D.length b.addr (secS b n) }) (F) E (putD D b.addr (secS b n)) (putM D.length M E b.addr (secS b n)) (⟨#[]⟩) (false)) := by
  have HFR := Lib.hid (fun W' (h : Below W.heap.size W W') => hf.next h)
  have HDD := Lib.hid (fun W' (h : Below W.heap.size W W') => hd.below h)
  have HMM := Lib.hid (fun W' (h : Below W.heap.size W W') => hm.below h)
  have HSZ := Lib.hid (And.intro hF (And.intro hD hM))
  clear hf hF hd hm hD hM
  have hsec : decide ((16 : Int) ≤ n) = false := decide_eq_false (by omega)
  have hz : (secS b n).size ≤ 9223372036854775807 := by
    have hsz : b.sec.size = 1024 := by unfold hasB at hb; have := eq_of_beq hb; omega
    unfold secS
    simp
    omega
  have c35 : RowKit.Hid (∀ W p c, Calls Try.prog 35 #[bdV (({ b with done := true } : Bd).at p F.length c)] W fun e W' => e = .returned (.string (secS b n)) ∧ Below W.heap.size W W') := Lib.hid fun W p c => sector_any (({ b with done := true } : Bd).at p F.length c) n W hb hn h16
  generalize secS b n = sx at *
  have HSE := Lib.hid hn
  have HA := Lib.hid (And.intro ha hz)
  clear ha hn h16 hb hz
  go_enter Try.func21, Try.ntmps21
  have X := Lib.hid (act_start W b p1 q1 D.length M.length c1 d1 E 2 es)
  go_upto_region 1 with (fail)
  generalize ((((W.alloc (bdO b)).alloc (.cells (ramC (.slice p1 D.length c1) (.slice q1 M.length d1) E) 49)).alloc (.cells #[.int .i64 2, .string es] 42)).alloc zeroO).alloc ramZO = wr at X ⊢
  go_cut [10] (fun s10 wx => ∃ (z : Nat) (p : Option Addr) (c : Nat) (p2 : Option Addr) (c2 : Nat) (q2 : Option Addr) (d2 : Nat), s10 = .pointer (some ⟨z, 0, none⟩) ∧ RowKit.Hid (Mem W wx [(z, ramC (.slice p2 D.length c2) (.slice q2 M.length d2) E, 49), (W.heap.size + 1 + 1 + 1 + 1, ramZC, 49), (W.heap.size + 1 + 1 + 1, bdC bdZ, 30), (W.heap.size + 1 + 1, #[.int .i64 2, .string es], 42), (W.heap.size + 1, (ramC (.slice p1 D.length c1) (.slice q1 M.length d1) E), 49), (W.heap.size, bdC (b.at p F.length c), 30)] [(22, .slice q2 M.length d2, M.length, mC M), (5, .slice p2 D.length c2, D.length, dC D), (9, .slice p F.length c, F.length, sC F)]))
  case first =>
    refine wp_region_held (S := fun w => w.heap[W.heap.size + 1]? = some (.cells (ramC (.slice p1 D.length c1) (.slice q1 M.length d1) E) 49 (0, 0))) (by kernel_rfl) ?_
    have hdr : { wr with drawn := wr.drawn + 1 } = wr.drew := rfl
    rw [hdr]
    clear hdr
    replace X := Lib.hid (X.out.next (Below.refl _ _).drew)
    generalize wr.drew = wz at X ⊢
    have hS : wz.heap[W.heap.size + 1]? = some (.cells (ramC (.slice p1 D.length c1) (.slice q1 M.length d1) E) 49 (0, 0)) := X.out.g3
    refine wpAnyH_take (i := 2) (oi := ⟨some 18, Op.load 49 (.tmp 4), _, _, _, none⟩) (v := _) rfl (by kernel_rfl) (by kernel_rfl) (by kernel_rfl) (fun _ _ _ h => h) (yields_load rfl rfl rfl (fun w hw => ram_load hw)) hS ?_
    simp only [Act.put, List.setIfInBounds_toArray, List.set_cons_zero, List.set_cons_succ]
    refine wpAnyH_ready (rs := [0, 4]) (by kernel_rfl) (by simp) ?_
    refine cons_op (i := 0) (o := ⟨some 16, Op.load 30 (.tmp 3), _, _, _, _⟩) (w' := _) rfl rfl (exec_load rfl (Box.load X.out.b4) rfl) hS ?_ ?_
    · simp only [Act.put, List.setIfInBounds_toArray, List.set_cons_zero, List.set_cons_succ]
      refine wpAnyH_ready (rs := [1, 4]) (by kernel_rfl) (by simp) ?_
      refine cons_calls (i := 1) (o := ⟨some 17, Op.call { callee := .value (.func 20), args := #[.tmp 16], argTypes := #[30] }, _, _, _, _⟩) rfl (by kernel_rfl) (by go_simp) (calls_copied (copy_bd b F _ (HFR.out _ X.out.below) HSZ.out.1)) ?_ ?_
      · rintro v' w' ⟨p, c, hv', ho, kk⟩
        subst hv'
        replace X := Lib.hid ((X.out.next kk).addrow ho X.out.below.size (by decide))
        refine ⟨X.out.g3, fun hS => ?_⟩
        clear ho kk
        simp only [Act.put, List.setIfInBounds_toArray, List.set_cons_zero, List.set_cons_succ]
        refine wpAnyH_ready (rs := [3, 4]) (by kernel_rfl) (by simp) ?_
        refine cons_calls (i := 3) (o := ⟨some 19, Op.call { callee := .value (.func 33), args := #[.tmp 18], argTypes := #[49] }, _, _, _, _⟩) rfl (by kernel_rfl) (by go_simp) (calls_mem (copy_any _ _ E D M _ (HDD.out _ X.out.below) (HMM.out _ X.out.below) HSZ.out.2.1 HSZ.out.2.2)) ?_ ?_
        · rintro v' w' ⟨p2, c2, q2, d2, hv', ho, ho2, kk⟩
          subst hv'
          replace X := Lib.hid (((X.out.next kk).addrow ho X.out.below.size (by decide)).addrow ho2 X.out.below.size (by decide))
          refine ⟨X.out.g3, fun hS => ?_⟩
          clear ho ho2 kk
          simp only [Act.put, List.setIfInBounds_toArray, List.set_cons_zero, List.set_cons_succ]
          refine held_op (i := 4) (o := ⟨some 10, Op.alloc 49, _, _, _, _⟩) (w' := w'.alloc ramZO) (v := .pointer (some ⟨w'.heap.size, 0, none⟩)) (by kernel_rfl) rfl rfl (by go_simp) X.out.newR.g4 ?_
          simp only [Act.put, List.setIfInBounds_toArray, List.set_cons_zero, List.set_cons_succ]
          replace X := Lib.hid X.out.newR
          have hS := X.out.g4
          generalize hz : w'.heap.size = z at X ⊢
          clear hz
          generalize w'.alloc ramZO = wn at X hS ⊢
          refine held_store (i := 5) (o := ⟨none, Op.store 30 (.tmp 3) (.tmp 17), _, _, _, none⟩) (by kernel_rfl) rfl rfl rfl rfl rfl (store_box _ _ _ _ X.out.b5 (bdC_size _)) (X.out.p5 (cs' := bdC (b.at p F.length c)) rfl).g4 ?_
          simp only [Act.put]
          replace X := Lib.hid (X.out.p5 (cs' := bdC (b.at p F.length c)) rfl)
          replace hS := X.out.g4
          refine held_store (i := 6) (o := ⟨none, Op.store 49 (.tmp 10) (.tmp 19), _, _, _, none⟩) (by kernel_rfl) rfl rfl rfl rfl rfl (ram_store X.out.g0 rfl) (X.out.p0 (cs' := ramC (.slice p2 D.length c2) (.slice q2 M.length d2) E) rfl).g4 ?_
          simp only [Act.put]
          replace X := Lib.hid (X.out.p0 (cs' := ramC (.slice p2 D.length c2) (.slice q2 M.length d2) E) rfl)
          refine wpAnyH_done (by kernel_rfl) ?_ _
          go_wp2_with fail
          go_meet
          exact ⟨_, p, c, p2, c2, q2, d2, rfl, X⟩
        refine cons_op (i := 4) (o := ⟨some 10, Op.alloc 49, _, _, _, _⟩) (w' := w'.alloc ramZO) (v := .pointer (some ⟨w'.heap.size, 0, none⟩)) rfl rfl (by go_simp) X.out.newR.g4 ?_ AllReadyH.nil
        simp only [Act.put, List.setIfInBounds_toArray, List.set_cons_zero, List.set_cons_succ]
        replace X := Lib.hid X.out.newR
        have hS := X.out.g4
        generalize hz : w'.heap.size = z at X ⊢
        clear hz
        generalize w'.alloc ramZO = wn at X hS ⊢
        refine held_calls (i := 3) (o := ⟨some 19, Op.call { callee := .value (.func 33), args := #[.tmp 18], argTypes := #[49] }, _, _, _, _⟩) (by kernel_rfl) rfl (by kernel_rfl) (by go_simp) (calls_mem (copy_any _ _ E D M _ (HDD.out _ X.out.below) (HMM.out _ X.out.below) HSZ.out.2.1 HSZ.out.2.2)) ?_
        rintro v' w' ⟨p2, c2, q2, d2, hv', ho, ho2, kk⟩
        subst hv'
        replace X := Lib.hid (((X.out.next kk).addrow ho X.out.below.size (by decide)).addrow ho2 X.out.below.size (by decide))
        refine ⟨X.out.g4, fun hS => ?_⟩
        clear ho ho2 kk
        simp only [Act.put, List.setIfInBounds_toArray, List.set_cons_zero, List.set_cons_succ]
        refine held_store (i := 5) (o := ⟨none, Op.store 30 (.tmp 3) (.tmp 17), _, _, _, none⟩) (by kernel_rfl) rfl rfl rfl rfl rfl (store_box _ _ _ _ X.out.b5 (bdC_size _)) (X.out.p5 (cs' := bdC (b.at p F.length c)) rfl).g4 ?_
        simp only [Act.put]
        replace X := Lib.hid (X.out.p5 (cs' := bdC (b.at p F.length c)) rfl)
        replace hS := X.out.g4
        refine held_store (i := 6) (o := ⟨none, Op.store 49 (.tmp 10) (.tmp 19), _, _, _, none⟩) (by kernel_rfl) rfl rfl rfl rfl rfl (ram_store X.out.g0 rfl) (X.out.p0 (cs' := ramC (.slice p2 D.length c2) (.slice q2 M.length d2) E) rfl).g4 ?_
        simp only [Act.put]
        replace X := Lib.hid (X.out.p0 (cs' := ramC (.slice p2 D.length c2) (.slice q2 M.length d2) E) rfl)
        refine wpAnyH_done (by kernel_rfl) ?_ _
        go_wp2_with fail
        go_meet
        exact ⟨_, p, c, p2, c2, q2, d2, rfl, X⟩
      refine cons_op (i := 4) (o := ⟨some 10, Op.alloc 49, _, _, _, _⟩) (w' := wz.alloc ramZO) (v := .pointer (some ⟨wz.heap.size, 0, none⟩)) rfl rfl (by go_simp) X.out.newR.g4 ?_ AllReadyH.nil
      simp only [Act.put, List.setIfInBounds_toArray, List.set_cons_zero, List.set_cons_succ]
      replace X := Lib.hid X.out.newR
      have hS := X.out.g4
      generalize hz : wz.heap.size = z at X ⊢
      clear hz
      generalize wz.alloc ramZO = wn at X hS ⊢
      refine held_calls (i := 1) (o := ⟨some 17, Op.call { callee := .value (.func 20), args := #[.tmp 16], argTypes := #[30] }, _, _, _, _⟩) (by kernel_rfl) rfl (by kernel_rfl) (by go_simp) (calls_copied (copy_bd b F _ (HFR.out _ X.out.below) HSZ.out.1)) ?_
      rintro v' w' ⟨p, c, hv', ho, kk⟩
      subst hv'
      replace X := Lib.hid ((X.out.next kk).addrow ho X.out.below.size (by decide))
      refine ⟨X.out.g4, fun hS => ?_⟩
      clear ho kk
      simp only [Act.put, List.setIfInBounds_toArray, List.set_cons_zero, List.set_cons_succ]
      refine held_calls (i := 3) (o := ⟨some 19, Op.call { callee := .value (.func 33), args := #[.tmp 18], argTypes := #[49] }, _, _, _, _⟩) (by kernel_rfl) rfl (by kernel_rfl) (by go_simp) (calls_mem (copy_any _ _ E D M _ (HDD.out _ X.out.below) (HMM.out _ X.out.below) HSZ.out.2.1 HSZ.out.2.2)) ?_
      rintro v' w' ⟨p2, c2, q2, d2, hv', ho, ho2, kk⟩
      subst hv'
      replace X := Lib.hid (((X.out.next kk).addrow ho X.out.below.size (by decide)).addrow ho2 X.out.below.size (by decide))
      refine ⟨X.out.g4, fun hS => ?_⟩
      clear ho ho2 kk
      simp only [Act.put, List.setIfInBounds_toArray, List.set_cons_zero, List.set_cons_succ]
      refine held_store (i := 5) (o := ⟨none, Op.store 30 (.tmp 3) (.tmp 17), _, _, _, none⟩) (by kernel_rfl) rfl rfl rfl rfl rfl (store_box _ _ _ _ X.out.b5 (bdC_size _)) (X.out.p5 (cs' := bdC (b.at p F.length c)) rfl).g4 ?_
      simp only [Act.put]
      replace X := Lib.hid (X.out.p5 (cs' := bdC (b.at p F.length c)) rfl)
      replace hS := X.out.g4
      refine held_store (i := 6) (o := ⟨none, Op.store 49 (.tmp 10) (.tmp 19), _, _, _, none⟩) (by kernel_rfl) rfl rfl rfl rfl rfl (ram_store X.out.g0 rfl) (X.out.p0 (cs' := ramC (.slice p2 D.length c2) (.slice q2 M.length d2) E) rfl).g4 ?_
      simp only [Act.put]
      replace X := Lib.hid (X.out.p0 (cs' := ramC (.slice p2 D.length c2) (.slice q2 M.length d2) E) rfl)
      refine wpAnyH_done (by kernel_rfl) ?_ _
      go_wp2_with fail
      go_meet
      exact ⟨_, p, c, p2, c2, q2, d2, rfl, X⟩
    refine cons_op (i := 4) (o := ⟨some 10, Op.alloc 49, _, _, _, _⟩) (w' := wz.alloc ramZO) (v := .pointer (some ⟨wz.heap.size, 0, none⟩)) rfl rfl (by go_simp) X.out.newR.g4 ?_ AllReadyH.nil
    simp only [Act.put, List.setIfInBounds_toArray, List.set_cons_zero, List.set_cons_succ]
    replace X := Lib.hid X.out.newR
    have hS := X.out.g4
    generalize hz : wz.heap.size = z at X ⊢
    clear hz
    generalize wz.alloc ramZO = wn at X hS ⊢
    refine held_op (i := 0) (o := ⟨some 16, Op.load 30 (.tmp 3), _, _, _, _⟩) (w' := _) (by kernel_rfl) rfl rfl (exec_load rfl (Box.load X.out.b5) rfl) hS ?_
    simp only [Act.put, List.setIfInBounds_toArray, List.set_cons_zero, List.set_cons_succ]
    refine held_calls (i := 1) (o := ⟨some 17, Op.call { callee := .value (.func 20), args := #[.tmp 16], argTypes := #[30] }, _, _, _, _⟩) (by kernel_rfl) rfl (by kernel_rfl) (by go_simp) (calls_copied (copy_bd b F _ (HFR.out _ X.out.below) HSZ.out.1)) ?_
    rintro v' w' ⟨p, c, hv', ho, kk⟩
    subst hv'
    replace X := Lib.hid ((X.out.next kk).addrow ho X.out.below.size (by decide))
    refine ⟨X.out.g4, fun hS => ?_⟩
    clear ho kk
    simp only [Act.put, List.setIfInBounds_toArray, List.set_cons_zero, List.set_cons_succ]
    refine held_calls (i := 3) (o := ⟨some 19, Op.call { callee := .value (.func 33), args := #[.tmp 18], argTypes := #[49] }, _, _, _, _⟩) (by kernel_rfl) rfl (by kernel_rfl) (by go_simp) (calls_mem (copy_any _ _ E D M _ (HDD.out _ X.out.below) (HMM.out _ X.out.below) HSZ.out.2.1 HSZ.out.2.2)) ?_
    rintro v' w' ⟨p2, c2, q2, d2, hv', ho, ho2, kk⟩
    subst hv'
    replace X := Lib.hid (((X.out.next kk).addrow ho X.out.below.size (by decide)).addrow ho2 X.out.below.size (by decide))
    refine ⟨X.out.g4, fun hS => ?_⟩
    clear ho ho2 kk
    simp only [Act.put, List.setIfInBounds_toArray, List.set_cons_zero, List.set_cons_succ]
    refine held_store (i := 5) (o := ⟨none, Op.store 30 (.tmp 3) (.tmp 17), _, _, _, none⟩) (by kernel_rfl) rfl rfl rfl rfl rfl (store_box _ _ _ _ X.out.b5 (bdC_size _)) (X.out.p5 (cs' := bdC (b.at p F.length c)) rfl).g4 ?_
    simp only [Act.put]
    replace X := Lib.hid (X.out.p5 (cs' := bdC (b.at p F.length c)) rfl)
    replace hS := X.out.g4
    refine held_store (i := 6) (o := ⟨none, Op.store 49 (.tmp 10) (.tmp 19), _, _, _, none⟩) (by kernel_rfl) rfl rfl rfl rfl rfl (ram_store X.out.g0 rfl) (X.out.p0 (cs' := ramC (.slice p2 D.length c2) (.slice q2 M.length d2) E) rfl).g4 ?_
    simp only [Act.put]
    replace X := Lib.hid (X.out.p0 (cs' := ramC (.slice p2 D.length c2) (.slice q2 M.length d2) E) rfl)
    refine wpAnyH_done (by kernel_rfl) ?_ _
    go_wp2_with fail
    go_meet
    exact ⟨_, p, c, p2, c2, q2, d2, rfl, X⟩
  case rest =>
    clear X HFR HDD HMM HSZ
    obtain ⟨z, p, c, p2, c2, q2, d2, rfl, X⟩ := hcut
    have m_k : wc.cell? ⟨W.heap.size + 1 + 1, 0, none⟩ = some (.int .i64 2) := cell_of_row _ _ 0 _ 42 (0, 0) X.out.g3
    have m_s : wc.cell? ⟨W.heap.size + 1 + 1, 1, none⟩ = some (.string es) := cell_of_row _ _ 1 _ 42 (0, 0) X.out.g3
    go_upto_region 7 with (first | (with_reducible refine Box.w_done X.out.b5 rfl rfl rfl rfl ?_; intro wb hwy; have X := Lib.hid (X.out.p5 (cs' := bdC (({ b with done := true } : Bd).at p F.length c)) hwy); clear hwy) | fail)
    clear m_k m_s
    refine wp_region_held (S := fun w => w.cell? ⟨W.heap.size, 5, none⟩ = some (.int .u64 (n : Int)) ∧ w.cell? ⟨W.heap.size, 6, none⟩ = some (.int .u64 b.addr)) (by kernel_rfl) ?_
    have hdr : { wb with drawn := wb.drawn + 1 } = wb.drew := rfl
    rw [hdr]
    clear hdr
    replace X := Lib.hid (X.out.next (Below.refl _ _).drew)
    generalize wb.drew = wz at X ⊢
    have hS : wz.cell? ⟨W.heap.size, 5, none⟩ = some (.int .u64 (n : Int)) ∧ wz.cell? ⟨W.heap.size, 6, none⟩ = some (.int .u64 b.addr) := ⟨HSE.out ▸ X.out.b5.at_cell_sector, X.out.b5.at_cell_addr⟩
    refine wpAnyH_take (i := 0) (oi := ⟨some 31, Op.fieldAddr 30 (.tmp 3) 5, _, _, _, _⟩) (v := ?_) rfl (by kernel_rfl) (by kernel_rfl) (by kernel_rfl) (fun _ _ _ h => h) (Or.inl ⟨by rfl, ?_⟩) hS ?_
    rotate_left
    · (intro w hSw; (try dsimp only at hSw); go_simp; try with_reducible rfl)
    simp only [Act.put, List.setIfInBounds_toArray, List.set_cons_zero, List.set_cons_succ]
    refine wpAnyH_take (i := 1) (oi := ⟨some 32, Op.load 22 (.tmp 31), _, _, _, _⟩) (v := ?_) rfl (by kernel_rfl) (by kernel_rfl) (by kernel_rfl) (fun _ _ _ h => h) (Or.inl ⟨by rfl, ?_⟩) hS ?_
    rotate_left
    · (rintro w ⟨hS1, hS2⟩; go_simp; try with_reducible rfl)
    simp only [Act.put, List.setIfInBounds_toArray, List.set_cons_zero, List.set_cons_succ]
    refine wpAnyH_take (i := 2) (oi := ⟨some 33, Op.binOp .geq 22 (.tmp 32) (.const (.int .u64 16)) 22, _, _, _, _⟩) (v := ?_) rfl (by kernel_rfl) (by kernel_rfl) (by kernel_rfl) (fun _ _ _ h => h) (Or.inl ⟨by rfl, ?_⟩) hS ?_
    rotate_left
    · (intro w hSw; (try dsimp only at hSw); go_simp; try with_reducible rfl)
    simp only [Act.put, List.setIfInBounds_toArray, List.set_cons_zero, List.set_cons_succ]
    refine wpAnyH_take (i := 3) (oi := ⟨some 34, Op.move (.tmp 33), _, _, _, _⟩) (v := ?_) rfl (by kernel_rfl) (by kernel_rfl) (by kernel_rfl) (fun _ _ _ h => h) (Or.inl ⟨by rfl, ?_⟩) hS ?_
    rotate_left
    · (intro w hSw; (try dsimp only at hSw); go_simp; try with_reducible rfl)
    simp only [Act.put, List.setIfInBounds_toArray, List.set_cons_zero, List.set_cons_succ]
    refine wpAnyH_take (i := 4) (oi := ⟨some 35, Op.fieldAddr 30 (.tmp 3) 6, _, _, _, _⟩) (v := ?_) rfl (by kernel_rfl) (by kernel_rfl) (by kernel_rfl) (fun _ _ _ h => h) (Or.inl ⟨by rfl, ?_⟩) hS ?_
    rotate_left
    · (intro w hSw; (try dsimp only at hSw); go_simp; try with_reducible rfl)
    simp only [Act.put, List.setIfInBounds_toArray, List.set_cons_zero, List.set_cons_succ]
    refine wpAnyH_take (i := 5) (oi := ⟨some 36, Op.load 22 (.tmp 35), _, _, _, _⟩) (v := ?_) rfl (by kernel_rfl) (by kernel_rfl) (by kernel_rfl) (fun _ _ _ h => h) (Or.inl ⟨by rfl, ?_⟩) hS ?_
    rotate_left
    · (rintro w ⟨hS1, hS2⟩; go_simp; try with_reducible rfl)
    simp only [Act.put, List.setIfInBounds_toArray, List.set_cons_zero, List.set_cons_succ]
    refine wpAnyH_ready (rs := [6]) (by kernel_rfl) (by simp) ?_
    refine AllReadyH.cons (o := ⟨some 37, Op.load 30 (.tmp 3), _, _, _, _⟩) rfl (fun K hK => ?_) AllReadyH.nil
    rw [if_pos (by kernel_rfl)]
    unfold Oper.wp
    rw [exec_load (P := Try.prog) rfl (Box.load X.out.b5) rfl]
    refine hK.out _ _ hS fun hS => ?_
    simp only [Act.put, List.setIfInBounds_toArray, List.set_cons_zero, List.set_cons_succ]
    refine held_calls (i := 7) (o := ⟨some 38, Op.call { callee := .value (.func 35), args := #[.tmp 37], argTypes := #[30] }, _, _, _, _⟩) (by kernel_rfl) rfl (by kernel_rfl) (by go_simp) (calls_told (c35.out _ p c)) ?_
    rintro v' w' ⟨hv', kk⟩
    subst hv'
    replace X := Lib.hid (X.out.next kk)
    refine ⟨⟨HSE.out ▸ X.out.b5.at_cell_sector, X.out.b5.at_cell_addr⟩, fun hS => ?_⟩
    clear kk
    simp only [Act.put, List.setIfInBounds_toArray, List.set_cons_zero, List.set_cons_succ]
    refine held_calls (i := 8) (o := ⟨some 39, Op.call { callee := .value (.func 34), args := #[.tmp 10, .tmp 36, .tmp 38], argTypes := #[70, 22, 9] }, _, _, _, _⟩) (by kernel_rfl) rfl (by kernel_rfl) (by go_simp) (calls_put X.out (by simp) b.addr sx HA.out.1.1 HA.out.1.2 HA.out.2) ?_
    rintro v' wq ⟨hv', X'⟩
    subst hv'
    replace X := Lib.hid X'
    clear X'
    refine ⟨⟨HSE.out ▸ X.out.b5.at_cell_sector, X.out.b5.at_cell_addr⟩, fun hS => ?_⟩
    simp only [Act.put, List.setIfInBounds_toArray, List.set_cons_zero, List.set_cons_succ]
    obtain ⟨ok, hok⟩ : ∃ x, putB D.length b.addr sx = x := ⟨_, rfl⟩
    rw [hok]
    have HOK := Lib.hid hok
    clear hok
    refine wpAnyH_take (i := 9) (oi := ⟨some 40, Op.unOp .not 4 (.tmp 39), _, _, _, _⟩) (v := ?_) rfl (by kernel_rfl) (by kernel_rfl) (by kernel_rfl) (fun _ _ _ h => h) (Or.inl ⟨by rfl, ?_⟩) hS ?_
    rotate_left
    · (intro w hSw; (try dsimp only at hSw); go_simp; try with_reducible rfl)
    simp only [Act.put, List.setIfInBounds_toArray, List.set_cons_zero, List.set_cons_succ]
    refine wpAnyH_take (i := 10) (oi := ⟨some 41, Op.pick (.tmp 34) (.const (.bool true)) (.tmp 40), _, _, _, _⟩) (v := ?_) rfl (by kernel_rfl) (by kernel_rfl) (by kernel_rfl) (fun _ _ _ h => h) (Or.inl ⟨by rfl, ?_⟩) hS ?_
    rotate_left
    · (intro w hSw; (try dsimp only at hSw); go_simp; try with_reducible rfl)
    simp only [Act.put, List.setIfInBounds_toArray, List.set_cons_zero, List.set_cons_succ]
    refine wpAnyH_take (i := 11) (oi := ⟨some 42, Op.fieldAddr 30 (.tmp 3) 8, _, _, _, _⟩) (v := ?_) rfl (by kernel_rfl) (by kernel_rfl) (by kernel_rfl) (fun _ _ _ h => h) (Or.inl ⟨by rfl, ?_⟩) hS ?_
    rotate_left
    · (intro w hSw; (try dsimp only at hSw); go_simp; try with_reducible rfl)
    simp only [Act.put, List.setIfInBounds_toArray, List.set_cons_zero, List.set_cons_succ]
    refine held_store (i := 12) (o := ⟨none, Op.store 4 (.tmp 42) (.tmp 41), _, _, _, none⟩) (by kernel_rfl) rfl rfl rfl rfl rfl (show (Instr.storeAt 4 (.pointer (some ⟨W.heap.size, 8, none⟩)) (.bool (!ok))).run Try.prog wq = .ok () (wq.setRow W.heap.size (bdC (({ b with done := true, bad := (!ok) } : Bd).at p F.length c))) from Box.store_bad X.out.b5 _) (show (wq.setRow W.heap.size (bdC (({ b with done := true, bad := (!ok) } : Bd).at p F.length c))).cell? ⟨W.heap.size, 5, none⟩ = some (.int .u64 (n : Int)) ∧ (wq.setRow W.heap.size (bdC (({ b with done := true, bad := (!ok) } : Bd).at p F.length c))).cell? ⟨W.heap.size, 6, none⟩ = some (.int .u64 b.addr) from ⟨HSE.out ▸ (X.out.p5 (cs' := bdC (({ b with done := true, bad := (!ok) } : Bd).at p F.length c)) rfl).b5.at_cell_sector, (X.out.p5 (cs' := bdC (({ b with done := true, bad := (!ok) } : Bd).at p F.length c)) rfl).b5.at_cell_addr⟩) ?_
    simp only [Act.put]
    replace X := Lib.hid (X.out.p5 (cs' := bdC (({ b with done := true, bad := (!ok) } : Bd).at p F.length c)) rfl)
    generalize wq.setRow W.heap.size (bdC (({ b with done := true, bad := (!ok) } : Bd).at p F.length c)) = wn at X ⊢
    refine wpAnyH_done (by kernel_rfl) ?_ _
    go_upto_region 21 with (fail)
    refine wp_region_held (S := fun w => Box w W.heap.size (({ b with done := true, bad := (!ok) } : Bd).at p F.length c) ∧ w.heap[z]? = some (.cells (ramC (.slice p2 D.length c2) (.slice q2 M.length d2) E) 49 (0, 0))) (by kernel_rfl) ?_
    have hdr : { wn with drawn := wn.drawn + 1 } = wn.drew := rfl
    rw [hdr]
    clear hdr
    replace X := Lib.hid (X.out.next (Below.refl _ _).drew)
    generalize wn.drew = wz at X ⊢
    have hS : Box wz W.heap.size (({ b with done := true, bad := (!ok) } : Bd).at p F.length c) ∧ wz.heap[z]? = some (.cells (ramC (.slice p2 D.length c2) (.slice q2 M.length d2) E) 49 (0, 0)) := ⟨X.out.b5, X.out.g0⟩
    refine wpAnyH_take (i := 0) (oi := ⟨some 115, Op.load 30 (.tmp 3), _, _, _, none⟩) (v := _) rfl (by kernel_rfl) (by kernel_rfl) (by kernel_rfl) (fun _ _ _ h => h) (yields_load rfl rfl rfl (fun w hw => hw.1.load)) hS ?_
    simp only [Act.put, List.setIfInBounds_toArray, List.set_cons_zero, List.set_cons_succ]
    refine wpAnyH_take (i := 1) (oi := ⟨some 116, Op.load 49 (.tmp 10), _, _, _, none⟩) (v := _) rfl (by kernel_rfl) (by kernel_rfl) (by kernel_rfl) (fun _ _ _ h => h) (yields_load rfl rfl rfl (fun w hw => ram_load hw.2)) hS ?_
    simp only [Act.put, List.setIfInBounds_toArray, List.set_cons_zero, List.set_cons_succ]
    refine held_store (i := 2) (o := ⟨none, Op.store 30 (.tmp 6) (.tmp 115), _, _, _, none⟩) (by kernel_rfl) rfl rfl rfl rfl rfl (store_box _ _ _ _ X.out.b2 (bdC_size _)) (⟨(X.out.p2 (cs' := bdC (({ b with done := true, bad := (!ok) } : Bd).at p F.length c)) rfl).b5, (X.out.p2 (cs' := bdC (({ b with done := true, bad := (!ok) } : Bd).at p F.length c)) rfl).g0⟩) ?_
    simp only [Act.put]
    replace X := Lib.hid (X.out.p2 (cs' := bdC (({ b with done := true, bad := (!ok) } : Bd).at p F.length c)) rfl)
    refine held_store (i := 3) (o := ⟨none, Op.store 49 (.tmp 7) (.tmp 116), _, _, _, none⟩) (by kernel_rfl) rfl rfl rfl rfl rfl (ram_store X.out.g1 rfl) (⟨(X.out.p1 (cs' := (ramC (.slice p2 D.length c2) (.slice q2 M.length d2) E)) rfl).b5, (X.out.p1 (cs' := (ramC (.slice p2 D.length c2) (.slice q2 M.length d2) E)) rfl).g0⟩) ?_
    simp only [Act.put]
    replace X := Lib.hid (X.out.p1 (cs' := (ramC (.slice p2 D.length c2) (.slice q2 M.length d2) E)) rfl)
    replace hS := And.intro X.out.b5 X.out.g0
    refine wpAnyH_take (i := 4) (oi := ⟨some 8, Op.assign (.const (.string ⟨#[]⟩)), _, _, _, none⟩) (v := ?_) rfl (by kernel_rfl) (by kernel_rfl) (by kernel_rfl) (fun _ _ _ h => h) (Or.inl ⟨by rfl, ?_⟩) hS ?_
    rotate_left
    · (intro w hSw; (try dsimp only at hSw); go_simp; try with_reducible rfl)
    simp only [Act.put, List.setIfInBounds_toArray, List.set_cons_zero, List.set_cons_succ]
    refine wpAnyH_take (i := 5) (oi := ⟨some 9, Op.assign (.const (.bool false)), _, _, _, none⟩) (v := ?_) rfl (by kernel_rfl) (by kernel_rfl) (by kernel_rfl) (fun _ _ _ h => h) (Or.inl ⟨by rfl, ?_⟩) hS ?_
    rotate_left
    · (intro w hSw; (try dsimp only at hSw); go_simp; try with_reducible rfl)
    simp only [Act.put, List.setIfInBounds_toArray, List.set_cons_zero, List.set_cons_succ]
    refine wpAnyH_done (by kernel_rfl) ?_ _
    go_wp2_with fail
    have hok := HOK.out
    subst hok
    exact bodyPost_ret (v := .tuple #[bdV (({ b with done := true, bad := (!putB D.length b.addr sx) } : Bd).at p F.length c), .agg (ramC (.slice p2 D.length c2) (.slice q2 M.length d2) E), .string (⟨#[]⟩), .bool false]) (results_act Try.results21 _ _ (W.heap.size + 1 + 1 + 1) (W.heap.size + 1 + 1 + 1 + 1) _ _ _ _ _ _ rfl X.out.b2 rfl X.out.g1 rfl rfl) rfl ⟨p, c, _, _, rfl, FAt.of X.out.r2, reads_of_owns X.out.r1, reads_of_owns X.out.r0, X.out.below⟩

end Go.Proofs.Ytmbaimcneffnlaa
