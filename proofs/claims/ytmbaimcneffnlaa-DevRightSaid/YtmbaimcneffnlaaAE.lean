/- Act: the disk is written, without success. -/
import Derived.Test.YtmbaimcneffnlaaAB
import Derived.Test.YtmbaimcneffnlaaAC
namespace Go.Proofs.Ytmbaimcneffnlaa
open Go.RowKit Go.Deep Go.Joins
theorem Box.at_cell_sector {w : World} {g n c : Nat} {p : Option Addr} {b : Bd} (k : Box w g (b.at p n c)) : w.cell? ⟨g, 5, none⟩ = some (.int .u64 b.sector) := k.cell_sector
theorem Box.at_cell_bad {w : World} {g n c : Nat} {p : Option Addr} {b : Bd} (k : Box w g (b.at p n c)) : w.cell? ⟨g, 8, none⟩ = some (.bool b.bad) := k.cell_bad
theorem Box.at_cell_sec {w : World} {g n c : Nat} {p : Option Addr} {b : Bd} (k : Box w g (b.at p n c)) : w.cell? ⟨g, 4, none⟩ = some (.string b.sec) := k.cell_sec
theorem Box.at_cell_done {w : World} {g n c : Nat} {p : Option Addr} {b : Bd} (k : Box w g (b.at p n c)) : w.cell? ⟨g, 7, none⟩ = some (.bool b.done) := k.cell_done
theorem Box.at_cell_addr {w : World} {g n c : Nat} {p : Option Addr} {b : Bd} (k : Box w g (b.at p n c)) : w.cell? ⟨g, 6, none⟩ = some (.int .u64 b.addr) := k.cell_addr
theorem Box.at_sector {w : World} {g n c : Nat} {p : Option Addr} {b : Bd} (k : Box w g (b.at p n c)) : (Instr.loadAt 22 (.pointer (some ⟨g, 5, none⟩))).run Try.prog w = .ok (.int .u64 b.sector) w := k.load_sector
theorem Box.at_addr {w : World} {g n c : Nat} {p : Option Addr} {b : Bd} (k : Box w g (b.at p n c)) : (Instr.loadAt 22 (.pointer (some ⟨g, 6, none⟩))).run Try.prog w = .ok (.int .u64 b.addr) w := k.load_addr
theorem Box.at_nicA {w : World} {g n c : Nat} {p : Option Addr} {b : Bd} (k : Box w g (b.at p n c)) : (Instr.loadAt 22 (.pointer (some ⟨g, 10, none⟩))).run Try.prog w = .ok (.int .u64 b.nicA) w := k.load_nicA
theorem Box.at_nicL {w : World} {g n c : Nat} {p : Option Addr} {b : Bd} (k : Box w g (b.at p n c)) : (Instr.loadAt 22 (.pointer (some ⟨g, 11, none⟩))).run Try.prog w = .ok (.int .u64 b.nicL) w := k.load_nicL
set_option maxRecDepth 100000 in
set_option maxHeartbeats 2000000 in
theorem act_wbad1 (b : Bd) (F : List ByteArray) (p1 q1 : Option Addr) (c1 d1 : Nat) (E : Int) (es : ByteArray) (D : List UInt8) (M : List Int)  (W : World) (hf : FAt W (.slice b.fp b.fn b.fc) F) (hF : F.length ≤ 8796093022208) (hd : DAt W (.slice p1 D.length c1) D) (hm : MAt W (.slice q1 M.length d1) M) (hD : D.length ≤ 140737488351232) (hM : M.length ≤ 17592186043904)(ha : 0 ≤ b.addr ∧ b.addr ≤ 18446744073709551615) (h16 : 16 ≤ b.sector) : Calls Try.prog 21 #[bdV b, .agg (ramC (.slice p1 D.length c1) (.slice q1 M.length d1) E), .agg #[.int .i64 3, .string es]] W (Acted W ({ b with done := true, bad := true }) (F) E (D) (M) (⟨#[]⟩) (false)) := by
  have HFR := Lib.hid (fun W' (h : Below W.heap.size W W') => hf.next h)
  have HDD := Lib.hid (fun W' (h : Below W.heap.size W W') => hd.below h)
  have HMM := Lib.hid (fun W' (h : Below W.heap.size W W') => hm.below h)
  have HSZ := Lib.hid (And.intro hF (And.intro hD hM))
  clear hf hF hd hm hD hM
  obtain ⟨ts, hts⟩ : ∃ x, textS D b.addr 64 = x := ⟨_, rfl⟩
  obtain ⟨te, hte⟩ : ∃ x, textE D.length b.addr 64 = x := ⟨_, rfl⟩
  have c36 : RowKit.Hid (∀ w p2 c2 q2 d2, DAt w (.slice p2 D.length c2) D → Calls Try.prog 36 #[.agg (ramC (.slice p2 D.length c2) (.slice q2 M.length d2) E), .int .u64 b.addr, .int .i64 64] w fun e w' => e = .returned (.tuple #[.string ts, .int .i64 te]) ∧ Below w.heap.size w w') := Lib.hid fun w p2 c2 q2 d2 h => by
    have k := text_all (.slice p2 D.length c2) D (.slice q2 M.length d2) (.int .u64 E) b.addr 64 w h ha.1 ha.2 (by omega) (by omega)
    rw [hts, hte] at k
    exact k
  have hsec : decide ((16 : Int) ≤ b.sector) = true := decide_eq_true h16
  clear hts hte ha h16
  go_enter Try.func21, Try.ntmps21
  have X := Lib.hid (act_start W b p1 q1 D.length M.length c1 d1 E 3 es)
  go_upto_region 1 with (fail)
  generalize ((((W.alloc (bdO b)).alloc (.cells (ramC (.slice p1 D.length c1) (.slice q1 M.length d1) E) 49)).alloc (.cells #[.int .i64 3, .string es] 42)).alloc zeroO).alloc ramZO = wr at X ⊢
  go_cut [10] (fun s10 wx => ∃ (z : Nat) (p : Option Addr) (c : Nat) (p2 : Option Addr) (c2 : Nat) (q2 : Option Addr) (d2 : Nat), s10 = .pointer (some ⟨z, 0, none⟩) ∧ RowKit.Hid (Mem W wx [(z, ramC (.slice p2 D.length c2) (.slice q2 M.length d2) E, 49), (W.heap.size + 1 + 1 + 1 + 1, ramZC, 49), (W.heap.size + 1 + 1 + 1, bdC bdZ, 30), (W.heap.size + 1 + 1, #[.int .i64 3, .string es], 42), (W.heap.size + 1, (ramC (.slice p1 D.length c1) (.slice q1 M.length d1) E), 49), (W.heap.size, bdC (b.at p F.length c), 30)] [(22, .slice q2 M.length d2, M.length, mC M), (5, .slice p2 D.length c2, D.length, dC D), (9, .slice p F.length c, F.length, sC F)]))
  case first =>
    refine wp_region_held (S := fun w => w.heap[W.heap.size + 1]? = some (.cells (ramC (.slice p1 D.length c1) (.slice q1 M.length d1) E) 49 (0, 0))) (by kernel_rfl) ?_
    have hdr : { wr with drawn := wr.drawn + 1 } = wr.drew := rfl
    rw [hdr]
    clear hdr
    replace X := Lib.hid (X.out.next (Below.refl _ _).drew)
    generalize wr.drew = wz at X ⊢
    have hS : wz.heap[W.heap.size + 1]? = some (.cells (ramC (.slice p1 D.length c1) (.slice q1 M.length d1) E) 49 (0, 0)) := X.out.g3
    refine wpAnyH_take (i := 2) (oi := ⟨some 18, Op.load 49 (.tmp 4), _, _, _, none⟩) (v := _) rfl (by kernel_rfl) (by kernel_rfl) (by kernel_rfl) (fun _ _ _ h => h) (yields_load rfl rfl rfl (fun w hw => ram_load hw)) hS ?_
    simp only [Act.put, List.setIfInBounds_toArray, List.set_cons_zero, List.set_cons_succ]
    refine wpAnyH_ready (rs := [0, 4]) (by kernel_rfl) (by simp) ?_
    refine cons_op (i := 0) (o := ⟨some 16, Op.load 30 (.tmp 3), _, _, _, _⟩) (w' := _) rfl rfl (exec_load rfl (Box.load X.out.b4) rfl) hS ?_ ?_
    · simp only [Act.put, List.setIfInBounds_toArray, List.set_cons_zero, List.set_cons_succ]
      refine wpAnyH_ready (rs := [1, 4]) (by kernel_rfl) (by simp) ?_
      refine cons_calls (i := 1) (o := ⟨some 17, Op.call { callee := .value (.func 20), args := #[.tmp 16], argTypes := #[30] }, _, _, _, _⟩) rfl (by kernel_rfl) (by go_simp) (calls_copied (copy_bd b F _ (HFR.out _ X.out.below) HSZ.out.1)) ?_ ?_
      · rintro v' w' ⟨p, c, hv', ho, kk⟩
        subst hv'
        replace X := Lib.hid ((X.out.next kk).addrow ho X.out.below.size (by decide))
        refine ⟨X.out.g3, fun hS => ?_⟩
        clear ho kk
        simp only [Act.put, List.setIfInBounds_toArray, List.set_cons_zero, List.set_cons_succ]
        refine wpAnyH_ready (rs := [3, 4]) (by kernel_rfl) (by simp) ?_
        refine cons_calls (i := 3) (o := ⟨some 19, Op.call { callee := .value (.func 33), args := #[.tmp 18], argTypes := #[49] }, _, _, _, _⟩) rfl (by kernel_rfl) (by go_simp) (calls_mem (copy_any _ _ E D M _ (HDD.out _ X.out.below) (HMM.out _ X.out.below) HSZ.out.2.1 HSZ.out.2.2)) ?_ ?_
        · rintro v' w' ⟨p2, c2, q2, d2, hv', ho, ho2, kk⟩
          subst hv'
          replace X := Lib.hid (((X.out.next kk).addrow ho X.out.below.size (by decide)).addrow ho2 X.out.below.size (by decide))
          refine ⟨X.out.g3, fun hS => ?_⟩
          clear ho ho2 kk
          simp only [Act.put, List.setIfInBounds_toArray, List.set_cons_zero, List.set_cons_succ]
          refine held_op (i := 4) (o := ⟨some 10, Op.alloc 49, _, _, _, _⟩) (w' := w'.alloc ramZO) (v := .pointer (some ⟨w'.heap.size, 0, none⟩)) (by kernel_rfl) rfl rfl (by go_simp) X.out.newR.g4 ?_
          simp only [Act.put, List.setIfInBounds_toArray, List.set_cons_zero, List.set_cons_succ]
          replace X := Lib.hid X.out.newR
          have hS := X.out.g4
          generalize hz : w'.heap.size = z at X ⊢
          clear hz
          generalize w'.alloc ramZO = wn at X hS ⊢
          refine held_store (i := 5) (o := ⟨none, Op.store 30 (.tmp 3) (.tmp 17), _, _, _, none⟩) (by kernel_rfl) rfl rfl rfl rfl rfl (store_box _ _ _ _ X.out.b5 (bdC_size _)) (X.out.p5 (cs' := bdC (b.at p F.length c)) rfl).g4 ?_
          simp only [Act.put]
          replace X := Lib.hid (X.out.p5 (cs' := bdC (b.at p F.length c)) rfl)
          replace hS := X.out.g4
          refine held_store (i := 6) (o := ⟨none, Op.store 49 (.tmp 10) (.tmp 19), _, _, _, none⟩) (by kernel_rfl) rfl rfl rfl rfl rfl (ram_store X.out.g0 rfl) (X.out.p0 (cs' := ramC (.slice p2 D.length c2) (.slice q2 M.length d2) E) rfl).g4 ?_
          simp only [Act.put]
          replace X := Lib.hid (X.out.p0 (cs' := ramC (.slice p2 D.length c2) (.slice q2 M.length d2) E) rfl)
          refine wpAnyH_done (by kernel_rfl) ?_ _
          go_wp2_with fail
          go_meet
          exact ⟨_, p, c, p2, c2, q2, d2, rfl, X⟩
        refine cons_op (i := 4) (o := ⟨some 10, Op.alloc 49, _, _, _, _⟩) (w' := w'.alloc ramZO) (v := .pointer (some ⟨w'.heap.size, 0, none⟩)) rfl rfl (by go_simp) X.out.newR.g4 ?_ AllReadyH.nil
        simp only [Act.put, List.setIfInBounds_toArray, List.set_cons_zero, List.set_cons_succ]
        replace X := Lib.hid X.out.newR
        have hS := X.out.g4
        generalize hz : w'.heap.size = z at X ⊢
        clear hz
        generalize w'.alloc ramZO = wn at X hS ⊢
        refine held_calls (i := 3) (o := ⟨some 19, Op.call { callee := .value (.func 33), args := #[.tmp 18], argTypes := #[49] }, _, _, _, _⟩) (by kernel_rfl) rfl (by kernel_rfl) (by go_simp) (calls_mem (copy_any _ _ E D M _ (HDD.out _ X.out.below) (HMM.out _ X.out.below) HSZ.out.2.1 HSZ.out.2.2)) ?_
        rintro v' w' ⟨p2, c2, q2, d2, hv', ho, ho2, kk⟩
        subst hv'
        replace X := Lib.hid (((X.out.next kk).addrow ho X.out.below.size (by decide)).addrow ho2 X.out.below.size (by decide))
        refine ⟨X.out.g4, fun hS => ?_⟩
        clear ho ho2 kk
        simp only [Act.put, List.setIfInBounds_toArray, List.set_cons_zero, List.set_cons_succ]
        refine held_store (i := 5) (o := ⟨none, Op.store 30 (.tmp 3) (.tmp 17), _, _, _, none⟩) (by kernel_rfl) rfl rfl rfl rfl rfl (store_box _ _ _ _ X.out.b5 (bdC_size _)) (X.out.p5 (cs' := bdC (b.at p F.length c)) rfl).g4 ?_
        simp only [Act.put]
        replace X := Lib.hid (X.out.p5 (cs' := bdC (b.at p F.length c)) rfl)
        replace hS := X.out.g4
        refine held_store (i := 6) (o := ⟨none, Op.store 49 (.tmp 10) (.tmp 19), _, _, _, none⟩) (by kernel_rfl) rfl rfl rfl rfl rfl (ram_store X.out.g0 rfl) (X.out.p0 (cs' := ramC (.slice p2 D.length c2) (.slice q2 M.length d2) E) rfl).g4 ?_
        simp only [Act.put]
        replace X := Lib.hid (X.out.p0 (cs' := ramC (.slice p2 D.length c2) (.slice q2 M.length d2) E) rfl)
        refine wpAnyH_done (by kernel_rfl) ?_ _
        go_wp2_with fail
        go_meet
        exact ⟨_, p, c, p2, c2, q2, d2, rfl, X⟩
      refine cons_op (i := 4) (o := ⟨some 10, Op.alloc 49, _, _, _, _⟩) (w' := wz.alloc ramZO) (v := .pointer (some ⟨wz.heap.size, 0, none⟩)) rfl rfl (by go_simp) X.out.newR.g4 ?_ AllReadyH.nil
      simp only [Act.put, List.setIfInBounds_toArray, List.set_cons_zero, List.set_cons_succ]
      replace X := Lib.hid X.out.newR
      have hS := X.out.g4
      generalize hz : wz.heap.size = z at X ⊢
      clear hz
      generalize wz.alloc ramZO = wn at X hS ⊢
      refine held_calls (i := 1) (o := ⟨some 17, Op.call { callee := .value (.func 20), args := #[.tmp 16], argTypes := #[30] }, _, _, _, _⟩) (by kernel_rfl) rfl (by kernel_rfl) (by go_simp) (calls_copied (copy_bd b F _ (HFR.out _ X.out.below) HSZ.out.1)) ?_
      rintro v' w' ⟨p, c, hv', ho, kk⟩
      subst hv'
      replace X := Lib.hid ((X.out.next kk).addrow ho X.out.below.size (by decide))
      refine ⟨X.out.g4, fun hS => ?_⟩
      clear ho kk
      simp only [Act.put, List.setIfInBounds_toArray, List.set_cons_zero, List.set_cons_succ]
      refine held_calls (i := 3) (o := ⟨some 19, Op.call { callee := .value (.func 33), args := #[.tmp 18], argTypes := #[49] }, _, _, _, _⟩) (by kernel_rfl) rfl (by kernel_rfl) (by go_simp) (calls_mem (copy_any _ _ E D M _ (HDD.out _ X.out.below) (HMM.out _ X.out.below) HSZ.out.2.1 HSZ.out.2.2)) ?_
      rintro v' w' ⟨p2, c2, q2, d2, hv', ho, ho2, kk⟩
      subst hv'
      replace X := Lib.hid (((X.out.next kk).addrow ho X.out.below.size (by decide)).addrow ho2 X.out.below.size (by decide))
      refine ⟨X.out.g4, fun hS => ?_⟩
      clear ho ho2 kk
      simp only [Act.put, List.setIfInBounds_toArray, List.set_cons_zero, List.set_cons_succ]
      refine held_store (i := 5) (o := ⟨none, Op.store 30 (.tmp 3) (.tmp 17), _, _, _, none⟩) (by kernel_rfl) rfl rfl rfl rfl rfl (store_box _ _ _ _ X.out.b5 (bdC_size _)) (X.out.p5 (cs' := bdC (b.at p F.length c)) rfl).g4 ?_
      simp only [Act.put]
      replace X := Lib.hid (X.out.p5 (cs' := bdC (b.at p F.length c)) rfl)
      replace hS := X.out.g4
      refine held_store (i := 6) (o := ⟨none, Op.store 49 (.tmp 10) (.tmp 19), _, _, _, none⟩) (by kernel_rfl) rfl rfl rfl rfl rfl (ram_store X.out.g0 rfl) (X.out.p0 (cs' := ramC (.slice p2 D.length c2) (.slice q2 M.length d2) E) rfl).g4 ?_
      simp only [Act.put]
      replace X := Lib.hid (X.out.p0 (cs' := ramC (.slice p2 D.length c2) (.slice q2 M.length d2) E) rfl)
      refine wpAnyH_done (by kernel_rfl) ?_ _
      go_wp2_with fail
      go_meet
      exact ⟨_, p, c, p2, c2, q2, d2, rfl, X⟩
    refine cons_op (i := 4) (o := ⟨some 10, Op.alloc 49, _, _, _, _⟩) (w' := wz.alloc ramZO) (v := .pointer (some ⟨wz.heap.size, 0, none⟩)) rfl rfl (by go_simp) X.out.newR.g4 ?_ AllReadyH.nil
    simp only [Act.put, List.setIfInBounds_toArray, List.set_cons_zero, List.set_cons_succ]
    replace X := Lib.hid X.out.newR
    have hS := X.out.g4
    generalize hz : wz.heap.size = z at X ⊢
    clear hz
    generalize wz.alloc ramZO = wn at X hS ⊢
    refine held_op (i := 0) (o := ⟨some 16, Op.load 30 (.tmp 3), _, _, _, _⟩) (w' := _) (by kernel_rfl) rfl rfl (exec_load rfl (Box.load X.out.b5) rfl) hS ?_
    simp only [Act.put, List.setIfInBounds_toArray, List.set_cons_zero, List.set_cons_succ]
    refine held_calls (i := 1) (o := ⟨some 17, Op.call { callee := .value (.func 20), args := #[.tmp 16], argTypes := #[30] }, _, _, _, _⟩) (by kernel_rfl) rfl (by kernel_rfl) (by go_simp) (calls_copied (copy_bd b F _ (HFR.out _ X.out.below) HSZ.out.1)) ?_
    rintro v' w' ⟨p, c, hv', ho, kk⟩
    subst hv'
    replace X := Lib.hid ((X.out.next kk).addrow ho X.out.below.size (by decide))
    refine ⟨X.out.g4, fun hS => ?_⟩
    clear ho kk
    simp only [Act.put, List.setIfInBounds_toArray, List.set_cons_zero, List.set_cons_succ]
    refine held_calls (i := 3) (o := ⟨some 19, Op.call { callee := .value (.func 33), args := #[.tmp 18], argTypes := #[49] }, _, _, _, _⟩) (by kernel_rfl) rfl (by kernel_rfl) (by go_simp) (calls_mem (copy_any _ _ E D M _ (HDD.out _ X.out.below) (HMM.out _ X.out.below) HSZ.out.2.1 HSZ.out.2.2)) ?_
    rintro v' w' ⟨p2, c2, q2, d2, hv', ho, ho2, kk⟩
    subst hv'
    replace X := Lib.hid (((X.out.next kk).addrow ho X.out.below.size (by decide)).addrow ho2 X.out.below.size (by decide))
    refine ⟨X.out.g4, fun hS => ?_⟩
    clear ho ho2 kk
    simp only [Act.put, List.setIfInBounds_toArray, List.set_cons_zero, List.set_cons_succ]
    refine held_store (i := 5) (o := ⟨none, Op.store 30 (.tmp 3) (.tmp 17), _, _, _, none⟩) (by kernel_rfl) rfl rfl rfl rfl rfl (store_box _ _ _ _ X.out.b5 (bdC_size _)) (X.out.p5 (cs' := bdC (b.at p F.length c)) rfl).g4 ?_
    simp only [Act.put]
    replace X := Lib.hid (X.out.p5 (cs' := bdC (b.at p F.length c)) rfl)
    replace hS := X.out.g4
    refine held_store (i := 6) (o := ⟨none, Op.store 49 (.tmp 10) (.tmp 19), _, _, _, none⟩) (by kernel_rfl) rfl rfl rfl rfl rfl (ram_store X.out.g0 rfl) (X.out.p0 (cs' := ramC (.slice p2 D.length c2) (.slice q2 M.length d2) E) rfl).g4 ?_
    simp only [Act.put]
    replace X := Lib.hid (X.out.p0 (cs' := ramC (.slice p2 D.length c2) (.slice q2 M.length d2) E) rfl)
    refine wpAnyH_done (by kernel_rfl) ?_ _
    go_wp2_with fail
    go_meet
    exact ⟨_, p, c, p2, c2, q2, d2, rfl, X⟩
  case rest =>
    clear X HFR HDD HMM HSZ
    obtain ⟨z, p, c, p2, c2, q2, d2, rfl, X⟩ := hcut
    have m_k : wc.cell? ⟨W.heap.size + 1 + 1, 0, none⟩ = some (.int .i64 3) := cell_of_row _ _ 0 _ 42 (0, 0) X.out.g3
    have m_s : wc.cell? ⟨W.heap.size + 1 + 1, 1, none⟩ = some (.string es) := cell_of_row _ _ 1 _ 42 (0, 0) X.out.g3
    go_upto_region 11 with (first | (with_reducible refine wpList_load_by rfl rfl (ram_load X.out.g0) rfl ?_) | (with_reducible refine wpList_load_by rfl rfl (Box.at_addr X.out.b5) rfl ?_) | (go_at_call 36; (with_reducible refine (c36.out _ _ _ _ _ (DAt.of X.out.r1)).mono ?_); rintro e w7 ⟨rfl, kk⟩; have X := Lib.hid (X.out.next kk); clear kk) | (with_reducible refine Box.w_done X.out.b5 rfl rfl rfl rfl ?_; intro wy hwy; have X := Lib.hid (X.out.p5 (cs' := bdC (({ b with done := true } : Bd).at p F.length c)) hwy); clear hwy) | fail)
    clear m_k m_s
    have m_sec := X.out.b5.at_cell_sector
    go_upto_region 12 with (first | (with_reducible refine Box.w_bad X.out.b5 rfl rfl rfl rfl ?_; intro wy hwy; have X := Lib.hid (X.out.p5 (cs' := bdC (({ b with done := true, bad := true } : Bd).at p F.length c)) hwy); clear hwy) | fail)
    clear m_sec
    have m_bad := X.out.b5.at_cell_bad
    go_upto_region 21 with (fail)
    refine wp_region_held (S := fun w => Box w W.heap.size (({ b with done := true, bad := true } : Bd).at p F.length c) ∧ w.heap[z]? = some (.cells (ramC (.slice p2 D.length c2) (.slice q2 M.length d2) E) 49 (0, 0))) (by kernel_rfl) ?_
    have hdr : { wy with drawn := wy.drawn + 1 } = wy.drew := rfl
    rw [hdr]
    clear hdr
    replace X := Lib.hid (X.out.next (Below.refl _ _).drew)
    generalize wy.drew = wz at X ⊢
    have hS : Box wz W.heap.size (({ b with done := true, bad := true } : Bd).at p F.length c) ∧ wz.heap[z]? = some (.cells (ramC (.slice p2 D.length c2) (.slice q2 M.length d2) E) 49 (0, 0)) := ⟨X.out.b5, X.out.g0⟩
    refine wpAnyH_take (i := 0) (oi := ⟨some 115, Op.load 30 (.tmp 3), _, _, _, none⟩) (v := _) rfl (by kernel_rfl) (by kernel_rfl) (by kernel_rfl) (fun _ _ _ h => h) (yields_load rfl rfl rfl (fun w hw => hw.1.load)) hS ?_
    simp only [Act.put, List.setIfInBounds_toArray, List.set_cons_zero, List.set_cons_succ]
    refine wpAnyH_take (i := 1) (oi := ⟨some 116, Op.load 49 (.tmp 10), _, _, _, none⟩) (v := _) rfl (by kernel_rfl) (by kernel_rfl) (by kernel_rfl) (fun _ _ _ h => h) (yields_load rfl rfl rfl (fun w hw => ram_load hw.2)) hS ?_
    simp only [Act.put, List.setIfInBounds_toArray, List.set_cons_zero, List.set_cons_succ]
    refine held_store (i := 2) (o := ⟨none, Op.store 30 (.tmp 6) (.tmp 115), _, _, _, none⟩) (by kernel_rfl) rfl rfl rfl rfl rfl (store_box _ _ _ _ X.out.b2 (bdC_size _)) (⟨(X.out.p2 (cs' := bdC (({ b with done := true, bad := true } : Bd).at p F.length c)) rfl).b5, (X.out.p2 (cs' := bdC (({ b with done := true, bad := true } : Bd).at p F.length c)) rfl).g0⟩) ?_
    simp only [Act.put]
    replace X := Lib.hid (X.out.p2 (cs' := bdC (({ b with done := true, bad := true } : Bd).at p F.length c)) rfl)
    refine held_store (i := 3) (o := ⟨none, Op.store 49 (.tmp 7) (.tmp 116), _, _, _, none⟩) (by kernel_rfl) rfl rfl rfl rfl rfl (ram_store X.out.g1 rfl) (⟨(X.out.p1 (cs' := (ramC (.slice p2 D.length c2) (.slice q2 M.length d2) E)) rfl).b5, (X.out.p1 (cs' := (ramC (.slice p2 D.length c2) (.slice q2 M.length d2) E)) rfl).g0⟩) ?_
    simp only [Act.put]
    replace X := Lib.hid (X.out.p1 (cs' := (ramC (.slice p2 D.length c2) (.slice q2 M.length d2) E)) rfl)
    replace hS := And.intro X.out.b5 X.out.g0
    refine wpAnyH_take (i := 4) (oi := ⟨some 8, Op.assign (.const (.string ⟨#[]⟩)), _, _, _, none⟩) (v := ?_) rfl (by kernel_rfl) (by kernel_rfl) (by kernel_rfl) (fun _ _ _ h => h) (Or.inl ⟨by rfl, ?_⟩) hS ?_
    rotate_left
    · (intro w hSw; (try dsimp only at hSw); go_simp; try with_reducible rfl)
    simp only [Act.put, List.setIfInBounds_toArray, List.set_cons_zero, List.set_cons_succ]
    refine wpAnyH_take (i := 5) (oi := ⟨some 9, Op.assign (.const (.bool false)), _, _, _, none⟩) (v := ?_) rfl (by kernel_rfl) (by kernel_rfl) (by kernel_rfl) (fun _ _ _ h => h) (Or.inl ⟨by rfl, ?_⟩) hS ?_
    rotate_left
    · (intro w hSw; (try dsimp only at hSw); go_simp; try with_reducible rfl)
    simp only [Act.put, List.setIfInBounds_toArray, List.set_cons_zero, List.set_cons_succ]
    refine wpAnyH_done (by kernel_rfl) ?_ _
    go_wp2_with fail
    exact bodyPost_ret (v := .tuple #[bdV (({ b with done := true, bad := true } : Bd).at p F.length c), .agg (ramC (.slice p2 D.length c2) (.slice q2 M.length d2) E), .string (⟨#[]⟩), .bool false]) (results_act Try.results21 _ _ (W.heap.size + 1 + 1 + 1) (W.heap.size + 1 + 1 + 1 + 1) _ _ _ _ _ _ rfl X.out.b2 rfl X.out.g1 rfl rfl) rfl ⟨p, c, _, _, rfl, FAt.of X.out.r2, reads_of_owns X.out.r1, reads_of_owns X.out.r0, X.out.below⟩
set_option maxRecDepth 100000 in
set_option maxHeartbeats 2000000 in
theorem act_wbad2 (b : Bd) (F : List ByteArray) (p1 q1 : Option Addr) (c1 d1 : Nat) (E : Int) (es : ByteArray) (D : List UInt8) (M : List Int) (n : Nat) (W : World) (hf : FAt W (.slice b.fp b.fn b.fc) F) (hF : F.length ≤ 8796093022208) (hd : DAt W (.slice p1 D.length c1) D) (hm : MAt W (.slice q1 M.length d1) M) (hD : D.length ≤ 140737488351232) (hM : M.length ≤ 17592186043904)(ha : 0 ≤ b.addr ∧ b.addr ≤ 18446744073709551615) (hn : b.sector = n) (h16 : n < 16) (he : textE D.length b.addr 64 ≠ 0) : Calls Try.prog 21 #[bdV b, .agg (ramC (.slice p1 D.length c1) (.slice q1 M.length d1) E), .agg #[.int .i64 3, .string es]] W (Acted W ({ b with done := true, bad := true }) (F) E (D) (M) (⟨#[]⟩) (false)) := by
  have HFR := Lib.hid (fun W' (h : Below W.heap.size W W') => hf.next h)
  have HDD := Lib.hid (fun W' (h : Below W.heap.size W W') => hd.below h)
  have HMM := Lib.hid (fun W' (h : Below W.heap.size W W') => hm.below h)
  have HSZ := Lib.hid (And.intro hF (And.intro hD hM))
  clear hf hF hd hm hD hM
  obtain ⟨ts, hts⟩ : ∃ x, textS D b.addr 64 = x := ⟨_, rfl⟩
  obtain ⟨te, hte⟩ : ∃ x, textE D.length b.addr 64 = x := ⟨_, rfl⟩
  have c36 : RowKit.Hid (∀ w p2 c2 q2 d2, DAt w (.slice p2 D.length c2) D → Calls Try.prog 36 #[.agg (ramC (.slice p2 D.length c2) (.slice q2 M.length d2) E), .int .u64 b.addr, .int .i64 64] w fun e w' => e = .returned (.tuple #[.string ts, .int .i64 te]) ∧ Below w.heap.size w w') := Lib.hid fun w p2 c2 q2 d2 h => by
    have k := text_all (.slice p2 D.length c2) D (.slice q2 M.length d2) (.int .u64 E) b.addr 64 w h ha.1 ha.2 (by omega) (by omega)
    rw [hts, hte] at k
    exact k
  have hsec : decide ((16 : Int) ≤ n) = false := decide_eq_false (by omega)
  have hne : (te != 0) = true := by rw [bne_iff_ne, ← hte]; exact he
  have HSE := Lib.hid hn
  clear hts hte ha h16 he hn
  go_enter Try.func21, Try.ntmps21
  have X := Lib.hid (act_start W b p1 q1 D.length M.length c1 d1 E 3 es)
  go_upto_region 1 with (fail)
  generalize ((((W.alloc (bdO b)).alloc (.cells (ramC (.slice p1 D.length c1) (.slice q1 M.length d1) E) 49)).alloc (.cells #[.int .i64 3, .string es] 42)).alloc zeroO).alloc ramZO = wr at X ⊢
  go_cut [10] (fun s10 wx => ∃ (z : Nat) (p : Option Addr) (c : Nat) (p2 : Option Addr) (c2 : Nat) (q2 : Option Addr) (d2 : Nat), s10 = .pointer (some ⟨z, 0, none⟩) ∧ RowKit.Hid (Mem W wx [(z, ramC (.slice p2 D.length c2) (.slice q2 M.length d2) E, 49), (W.heap.size + 1 + 1 + 1 + 1, ramZC, 49), (W.heap.size + 1 + 1 + 1, bdC bdZ, 30), (W.heap.size + 1 + 1, #[.int .i64 3, .string es], 42), (W.heap.size + 1, (ramC (.slice p1 D.length c1) (.slice q1 M.length d1) E), 49), (W.heap.size, bdC (b.at p F.length c), 30)] [(22, .slice q2 M.length d2, M.length, mC M), (5, .slice p2 D.length c2, D.length, dC D), (9, .slice p F.length c, F.length, sC F)]))
  case first =>
    refine wp_region_held (S := fun w => w.heap[W.heap.size + 1]? = some (.cells (ramC (.slice p1 D.length c1) (.slice q1 M.length d1) E) 49 (0, 0))) (by kernel_rfl) ?_
    have hdr : { wr with drawn := wr.drawn + 1 } = wr.drew := rfl
    rw [hdr]
    clear hdr
    replace X := Lib.hid (X.out.next (Below.refl _ _).drew)
    generalize wr.drew = wz at X ⊢
    have hS : wz.heap[W.heap.size + 1]? = some (.cells (ramC (.slice p1 D.length c1) (.slice q1 M.length d1) E) 49 (0, 0)) := X.out.g3
    refine wpAnyH_take (i := 2) (oi := ⟨some 18, Op.load 49 (.tmp 4), _, _, _, none⟩) (v := _) rfl (by kernel_rfl) (by kernel_rfl) (by kernel_rfl) (fun _ _ _ h => h) (yields_load rfl rfl rfl (fun w hw => ram_load hw)) hS ?_
    simp only [Act.put, List.setIfInBounds_toArray, List.set_cons_zero, List.set_cons_succ]
    refine wpAnyH_ready (rs := [0, 4]) (by kernel_rfl) (by simp) ?_
    refine cons_op (i := 0) (o := ⟨some 16, Op.load 30 (.tmp 3), _, _, _, _⟩) (w' := _) rfl rfl (exec_load rfl (Box.load X.out.b4) rfl) hS ?_ ?_
    · simp only [Act.put, List.setIfInBounds_toArray, List.set_cons_zero, List.set_cons_succ]
      refine wpAnyH_ready (rs := [1, 4]) (by kernel_rfl) (by simp) ?_
      refine cons_calls (i := 1) (o := ⟨some 17, Op.call { callee := .value (.func 20), args := #[.tmp 16], argTypes := #[30] }, _, _, _, _⟩) rfl (by kernel_rfl) (by go_simp) (calls_copied (copy_bd b F _ (HFR.out _ X.out.below) HSZ.out.1)) ?_ ?_
      · rintro v' w' ⟨p, c, hv', ho, kk⟩
        subst hv'
        replace X := Lib.hid ((X.out.next kk).addrow ho X.out.below.size (by decide))
        refine ⟨X.out.g3, fun hS => ?_⟩
        clear ho kk
        simp only [Act.put, List.setIfInBounds_toArray, List.set_cons_zero, List.set_cons_succ]
        refine wpAnyH_ready (rs := [3, 4]) (by kernel_rfl) (by simp) ?_
        refine cons_calls (i := 3) (o := ⟨some 19, Op.call { callee := .value (.func 33), args := #[.tmp 18], argTypes := #[49] }, _, _, _, _⟩) rfl (by kernel_rfl) (by go_simp) (calls_mem (copy_any _ _ E D M _ (HDD.out _ X.out.below) (HMM.out _ X.out.below) HSZ.out.2.1 HSZ.out.2.2)) ?_ ?_
        · rintro v' w' ⟨p2, c2, q2, d2, hv', ho, ho2, kk⟩
          subst hv'
          replace X := Lib.hid (((X.out.next kk).addrow ho X.out.below.size (by decide)).addrow ho2 X.out.below.size (by decide))
          refine ⟨X.out.g3, fun hS => ?_⟩
          clear ho ho2 kk
          simp only [Act.put, List.setIfInBounds_toArray, List.set_cons_zero, List.set_cons_succ]
          refine held_op (i := 4) (o := ⟨some 10, Op.alloc 49, _, _, _, _⟩) (w' := w'.alloc ramZO) (v := .pointer (some ⟨w'.heap.size, 0, none⟩)) (by kernel_rfl) rfl rfl (by go_simp) X.out.newR.g4 ?_
          simp only [Act.put, List.setIfInBounds_toArray, List.set_cons_zero, List.set_cons_succ]
          replace X := Lib.hid X.out.newR
          have hS := X.out.g4
          generalize hz : w'.heap.size = z at X ⊢
          clear hz
          generalize w'.alloc ramZO = wn at X hS ⊢
          refine held_store (i := 5) (o := ⟨none, Op.store 30 (.tmp 3) (.tmp 17), _, _, _, none⟩) (by kernel_rfl) rfl rfl rfl rfl rfl (store_box _ _ _ _ X.out.b5 (bdC_size _)) (X.out.p5 (cs' := bdC (b.at p F.length c)) rfl).g4 ?_
          simp only [Act.put]
          replace X := Lib.hid (X.out.p5 (cs' := bdC (b.at p F.length c)) rfl)
          replace hS := X.out.g4
          refine held_store (i := 6) (o := ⟨none, Op.store 49 (.tmp 10) (.tmp 19), _, _, _, none⟩) (by kernel_rfl) rfl rfl rfl rfl rfl (ram_store X.out.g0 rfl) (X.out.p0 (cs' := ramC (.slice p2 D.length c2) (.slice q2 M.length d2) E) rfl).g4 ?_
          simp only [Act.put]
          replace X := Lib.hid (X.out.p0 (cs' := ramC (.slice p2 D.length c2) (.slice q2 M.length d2) E) rfl)
          refine wpAnyH_done (by kernel_rfl) ?_ _
          go_wp2_with fail
          go_meet
          exact ⟨_, p, c, p2, c2, q2, d2, rfl, X⟩
        refine cons_op (i := 4) (o := ⟨some 10, Op.alloc 49, _, _, _, _⟩) (w' := w'.alloc ramZO) (v := .pointer (some ⟨w'.heap.size, 0, none⟩)) rfl rfl (by go_simp) X.out.newR.g4 ?_ AllReadyH.nil
        simp only [Act.put, List.setIfInBounds_toArray, List.set_cons_zero, List.set_cons_succ]
        replace X := Lib.hid X.out.newR
        have hS := X.out.g4
        generalize hz : w'.heap.size = z at X ⊢
        clear hz
        generalize w'.alloc ramZO = wn at X hS ⊢
        refine held_calls (i := 3) (o := ⟨some 19, Op.call { callee := .value (.func 33), args := #[.tmp 18], argTypes := #[49] }, _, _, _, _⟩) (by kernel_rfl) rfl (by kernel_rfl) (by go_simp) (calls_mem (copy_any _ _ E D M _ (HDD.out _ X.out.below) (HMM.out _ X.out.below) HSZ.out.2.1 HSZ.out.2.2)) ?_
        rintro v' w' ⟨p2, c2, q2, d2, hv', ho, ho2, kk⟩
        subst hv'
        replace X := Lib.hid (((X.out.next kk).addrow ho X.out.below.size (by decide)).addrow ho2 X.out.below.size (by decide))
        refine ⟨X.out.g4, fun hS => ?_⟩
        clear ho ho2 kk
        simp only [Act.put, List.setIfInBounds_toArray, List.set_cons_zero, List.set_cons_succ]
        refine held_store (i := 5) (o := ⟨none, Op.store 30 (.tmp 3) (.tmp 17), _, _, _, none⟩) (by kernel_rfl) rfl rfl rfl rfl rfl (store_box _ _ _ _ X.out.b5 (bdC_size _)) (X.out.p5 (cs' := bdC (b.at p F.length c)) rfl).g4 ?_
        simp only [Act.put]
        replace X := Lib.hid (X.out.p5 (cs' := bdC (b.at p F.length c)) rfl)
        replace hS := X.out.g4
        refine held_store (i := 6) (o := ⟨none, Op.store 49 (.tmp 10) (.tmp 19), _, _, _, none⟩) (by kernel_rfl) rfl rfl rfl rfl rfl (ram_store X.out.g0 rfl) (X.out.p0 (cs' := ramC (.slice p2 D.length c2) (.slice q2 M.length d2) E) rfl).g4 ?_
        simp only [Act.put]
        replace X := Lib.hid (X.out.p0 (cs' := ramC (.slice p2 D.length c2) (.slice q2 M.length d2) E) rfl)
        refine wpAnyH_done (by kernel_rfl) ?_ _
        go_wp2_with fail
        go_meet
        exact ⟨_, p, c, p2, c2, q2, d2, rfl, X⟩
      refine cons_op (i := 4) (o := ⟨some 10, Op.alloc 49, _, _, _, _⟩) (w' := wz.alloc ramZO) (v := .pointer (some ⟨wz.heap.size, 0, none⟩)) rfl rfl (by go_simp) X.out.newR.g4 ?_ AllReadyH.nil
      simp only [Act.put, List.setIfInBounds_toArray, List.set_cons_zero, List.set_cons_succ]
      replace X := Lib.hid X.out.newR
      have hS := X.out.g4
      generalize hz : wz.heap.size = z at X ⊢
      clear hz
      generalize wz.alloc ramZO = wn at X hS ⊢
      refine held_calls (i := 1) (o := ⟨some 17, Op.call { callee := .value (.func 20), args := #[.tmp 16], argTypes := #[30] }, _, _, _, _⟩) (by kernel_rfl) rfl (by kernel_rfl) (by go_simp) (calls_copied (copy_bd b F _ (HFR.out _ X.out.below) HSZ.out.1)) ?_
      rintro v' w' ⟨p, c, hv', ho, kk⟩
      subst hv'
      replace X := Lib.hid ((X.out.next kk).addrow ho X.out.below.size (by decide))
      refine ⟨X.out.g4, fun hS => ?_⟩
      clear ho kk
      simp only [Act.put, List.setIfInBounds_toArray, List.set_cons_zero, List.set_cons_succ]
      refine held_calls (i := 3) (o := ⟨some 19, Op.call { callee := .value (.func 33), args := #[.tmp 18], argTypes := #[49] }, _, _, _, _⟩) (by kernel_rfl) rfl (by kernel_rfl) (by go_simp) (calls_mem (copy_any _ _ E D M _ (HDD.out _ X.out.below) (HMM.out _ X.out.below) HSZ.out.2.1 HSZ.out.2.2)) ?_
      rintro v' w' ⟨p2, c2, q2, d2, hv', ho, ho2, kk⟩
      subst hv'
      replace X := Lib.hid (((X.out.next kk).addrow ho X.out.below.size (by decide)).addrow ho2 X.out.below.size (by decide))
      refine ⟨X.out.g4, fun hS => ?_⟩
      clear ho ho2 kk
      simp only [Act.put, List.setIfInBounds_toArray, List.set_cons_zero, List.set_cons_succ]
      refine held_store (i := 5) (o := ⟨none, Op.store 30 (.tmp 3) (.tmp 17), _, _, _, none⟩) (by kernel_rfl) rfl rfl rfl rfl rfl (store_box _ _ _ _ X.out.b5 (bdC_size _)) (X.out.p5 (cs' := bdC (b.at p F.length c)) rfl).g4 ?_
      simp only [Act.put]
      replace X := Lib.hid (X.out.p5 (cs' := bdC (b.at p F.length c)) rfl)
      replace hS := X.out.g4
      refine held_store (i := 6) (o := ⟨none, Op.store 49 (.tmp 10) (.tmp 19), _, _, _, none⟩) (by kernel_rfl) rfl rfl rfl rfl rfl (ram_store X.out.g0 rfl) (X.out.p0 (cs' := ramC (.slice p2 D.length c2) (.slice q2 M.length d2) E) rfl).g4 ?_
      simp only [Act.put]
      replace X := Lib.hid (X.out.p0 (cs' := ramC (.slice p2 D.length c2) (.slice q2 M.length d2) E) rfl)
      refine wpAnyH_done (by kernel_rfl) ?_ _
      go_wp2_with fail
      go_meet
      exact ⟨_, p, c, p2, c2, q2, d2, rfl, X⟩
    refine cons_op (i := 4) (o := ⟨some 10, Op.alloc 49, _, _, _, _⟩) (w' := wz.alloc ramZO) (v := .pointer (some ⟨wz.heap.size, 0, none⟩)) rfl rfl (by go_simp) X.out.newR.g4 ?_ AllReadyH.nil
    simp only [Act.put, List.setIfInBounds_toArray, List.set_cons_zero, List.set_cons_succ]
    replace X := Lib.hid X.out.newR
    have hS := X.out.g4
    generalize hz : wz.heap.size = z at X ⊢
    clear hz
    generalize wz.alloc ramZO = wn at X hS ⊢
    refine held_op (i := 0) (o := ⟨some 16, Op.load 30 (.tmp 3), _, _, _, _⟩) (w' := _) (by kernel_rfl) rfl rfl (exec_load rfl (Box.load X.out.b5) rfl) hS ?_
    simp only [Act.put, List.setIfInBounds_toArray, List.set_cons_zero, List.set_cons_succ]
    refine held_calls (i := 1) (o := ⟨some 17, Op.call { callee := .value (.func 20), args := #[.tmp 16], argTypes := #[30] }, _, _, _, _⟩) (by kernel_rfl) rfl (by kernel_rfl) (by go_simp) (calls_copied (copy_bd b F _ (HFR.out _ X.out.below) HSZ.out.1)) ?_
    rintro v' w' ⟨p, c, hv', ho, kk⟩
    subst hv'
    replace X := Lib.hid ((X.out.next kk).addrow ho X.out.below.size (by decide))
    refine ⟨X.out.g4, fun hS => ?_⟩
    clear ho kk
    simp only [Act.put, List.setIfInBounds_toArray, List.set_cons_zero, List.set_cons_succ]
    refine held_calls (i := 3) (o := ⟨some 19, Op.call { callee := .value (.func 33), args := #[.tmp 18], argTypes := #[49] }, _, _, _, _⟩) (by kernel_rfl) rfl (by kernel_rfl) (by go_simp) (calls_mem (copy_any _ _ E D M _ (HDD.out _ X.out.below) (HMM.out _ X.out.below) HSZ.out.2.1 HSZ.out.2.2)) ?_
    rintro v' w' ⟨p2, c2, q2, d2, hv', ho, ho2, kk⟩
    subst hv'
    replace X := Lib.hid (((X.out.next kk).addrow ho X.out.below.size (by decide)).addrow ho2 X.out.below.size (by decide))
    refine ⟨X.out.g4, fun hS => ?_⟩
    clear ho ho2 kk
    simp only [Act.put, List.setIfInBounds_toArray, List.set_cons_zero, List.set_cons_succ]
    refine held_store (i := 5) (o := ⟨none, Op.store 30 (.tmp 3) (.tmp 17), _, _, _, none⟩) (by kernel_rfl) rfl rfl rfl rfl rfl (store_box _ _ _ _ X.out.b5 (bdC_size _)) (X.out.p5 (cs' := bdC (b.at p F.length c)) rfl).g4 ?_
    simp only [Act.put]
    replace X := Lib.hid (X.out.p5 (cs' := bdC (b.at p F.length c)) rfl)
    replace hS := X.out.g4
    refine held_store (i := 6) (o := ⟨none, Op.store 49 (.tmp 10) (.tmp 19), _, _, _, none⟩) (by kernel_rfl) rfl rfl rfl rfl rfl (ram_store X.out.g0 rfl) (X.out.p0 (cs' := ramC (.slice p2 D.length c2) (.slice q2 M.length d2) E) rfl).g4 ?_
    simp only [Act.put]
    replace X := Lib.hid (X.out.p0 (cs' := ramC (.slice p2 D.length c2) (.slice q2 M.length d2) E) rfl)
    refine wpAnyH_done (by kernel_rfl) ?_ _
    go_wp2_with fail
    go_meet
    exact ⟨_, p, c, p2, c2, q2, d2, rfl, X⟩
  case rest =>
    clear X HFR HDD HMM HSZ
    obtain ⟨z, p, c, p2, c2, q2, d2, rfl, X⟩ := hcut
    have m_k : wc.cell? ⟨W.heap.size + 1 + 1, 0, none⟩ = some (.int .i64 3) := cell_of_row _ _ 0 _ 42 (0, 0) X.out.g3
    have m_s : wc.cell? ⟨W.heap.size + 1 + 1, 1, none⟩ = some (.string es) := cell_of_row _ _ 1 _ 42 (0, 0) X.out.g3
    go_upto_region 11 with (first | (with_reducible refine wpList_load_by rfl rfl (ram_load X.out.g0) rfl ?_) | (with_reducible refine wpList_load_by rfl rfl (Box.at_addr X.out.b5) rfl ?_) | (go_at_call 36; (with_reducible refine (c36.out _ _ _ _ _ (DAt.of X.out.r1)).mono ?_); rintro e w7 ⟨rfl, kk⟩; have X := Lib.hid (X.out.next kk); clear kk) | (with_reducible refine Box.w_done X.out.b5 rfl rfl rfl rfl ?_; intro wy hwy; have X := Lib.hid (X.out.p5 (cs' := bdC (({ b with done := true } : Bd).at p F.length c)) hwy); clear hwy) | fail)
    clear m_k m_s
    have m_sec : wy.cell? ⟨W.heap.size, 5, none⟩ = some (.int .u64 (n : Int)) := HSE.out ▸ X.out.b5.at_cell_sector
    go_upto_region 12 with (first | (with_reducible refine Box.w_bad X.out.b5 rfl rfl rfl rfl ?_; intro wy hwy; have X := Lib.hid (X.out.p5 (cs' := bdC (({ b with done := true, bad := true } : Bd).at p F.length c)) hwy); clear hwy) | fail)
    clear m_sec
    have m_bad := X.out.b5.at_cell_bad
    go_upto_region 21 with (fail)
    refine wp_region_held (S := fun w => Box w W.heap.size (({ b with done := true, bad := true } : Bd).at p F.length c) ∧ w.heap[z]? = some (.cells (ramC (.slice p2 D.length c2) (.slice q2 M.length d2) E) 49 (0, 0))) (by kernel_rfl) ?_
    have hdr : { wy with drawn := wy.drawn + 1 } = wy.drew := rfl
    rw [hdr]
    clear hdr
    replace X := Lib.hid (X.out.next (Below.refl _ _).drew)
    generalize wy.drew = wz at X ⊢
    have hS : Box wz W.heap.size (({ b with done := true, bad := true } : Bd).at p F.length c) ∧ wz.heap[z]? = some (.cells (ramC (.slice p2 D.length c2) (.slice q2 M.length d2) E) 49 (0, 0)) := ⟨X.out.b5, X.out.g0⟩
    refine wpAnyH_take (i := 0) (oi := ⟨some 115, Op.load 30 (.tmp 3), _, _, _, none⟩) (v := _) rfl (by kernel_rfl) (by kernel_rfl) (by kernel_rfl) (fun _ _ _ h => h) (yields_load rfl rfl rfl (fun w hw => hw.1.load)) hS ?_
    simp only [Act.put, List.setIfInBounds_toArray, List.set_cons_zero, List.set_cons_succ]
    refine wpAnyH_take (i := 1) (oi := ⟨some 116, Op.load 49 (.tmp 10), _, _, _, none⟩) (v := _) rfl (by kernel_rfl) (by kernel_rfl) (by kernel_rfl) (fun _ _ _ h => h) (yields_load rfl rfl rfl (fun w hw => ram_load hw.2)) hS ?_
    simp only [Act.put, List.setIfInBounds_toArray, List.set_cons_zero, List.set_cons_succ]
    refine held_store (i := 2) (o := ⟨none, Op.store 30 (.tmp 6) (.tmp 115), _, _, _, none⟩) (by kernel_rfl) rfl rfl rfl rfl rfl (store_box _ _ _ _ X.out.b2 (bdC_size _)) (⟨(X.out.p2 (cs' := bdC (({ b with done := true, bad := true } : Bd).at p F.length c)) rfl).b5, (X.out.p2 (cs' := bdC (({ b with done := true, bad := true } : Bd).at p F.length c)) rfl).g0⟩) ?_
    simp only [Act.put]
    replace X := Lib.hid (X.out.p2 (cs' := bdC (({ b with done := true, bad := true } : Bd).at p F.length c)) rfl)
    refine held_store (i := 3) (o := ⟨none, Op.store 49 (.tmp 7) (.tmp 116), _, _, _, none⟩) (by kernel_rfl) rfl rfl rfl rfl rfl (ram_store X.out.g1 rfl) (⟨(X.out.p1 (cs' := (ramC (.slice p2 D.length c2) (.slice q2 M.length d2) E)) rfl).b5, (X.out.p1 (cs' := (ramC (.slice p2 D.length c2) (.slice q2 M.length d2) E)) rfl).g0⟩) ?_
    simp only [Act.put]
    replace X := Lib.hid (X.out.p1 (cs' := (ramC (.slice p2 D.length c2) (.slice q2 M.length d2) E)) rfl)
    replace hS := And.intro X.out.b5 X.out.g0
    refine wpAnyH_take (i := 4) (oi := ⟨some 8, Op.assign (.const (.string ⟨#[]⟩)), _, _, _, none⟩) (v := ?_) rfl (by kernel_rfl) (by kernel_rfl) (by kernel_rfl) (fun _ _ _ h => h) (Or.inl ⟨by rfl, ?_⟩) hS ?_
    rotate_left
    · (intro w hSw; (try dsimp only at hSw); go_simp; try with_reducible rfl)
    simp only [Act.put, List.setIfInBounds_toArray, List.set_cons_zero, List.set_cons_succ]
    refine wpAnyH_take (i := 5) (oi := ⟨some 9, Op.assign (.const (.bool false)), _, _, _, none⟩) (v := ?_) rfl (by kernel_rfl) (by kernel_rfl) (by kernel_rfl) (fun _ _ _ h => h) (Or.inl ⟨by rfl, ?_⟩) hS ?_
    rotate_left
    · (intro w hSw; (try dsimp only at hSw); go_simp; try with_reducible rfl)
    simp only [Act.put, List.setIfInBounds_toArray, List.set_cons_zero, List.set_cons_succ]
    refine wpAnyH_done (by kernel_rfl) ?_ _
    go_wp2_with fail
    exact bodyPost_ret (v := .tuple #[bdV (({ b with done := true, bad := true } : Bd).at p F.length c), .agg (ramC (.slice p2 D.length c2) (.slice q2 M.length d2) E), .string (⟨#[]⟩), .bool false]) (results_act Try.results21 _ _ (W.heap.size + 1 + 1 + 1) (W.heap.size + 1 + 1 + 1 + 1) _ _ _ _ _ _ rfl X.out.b2 rfl X.out.g1 rfl rfl) rfl ⟨p, c, _, _, rfl, FAt.of X.out.r2, reads_of_owns X.out.r1, reads_of_owns X.out.r0, X.out.below⟩

end Go.Proofs.Ytmbaimcneffnlaa
