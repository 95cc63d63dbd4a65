/- The bytes of the serial line. -/
import Derived.Test.YtmbaimcneffnlaaDB
import Derived.Test.YtmbaimcneffnlaaGA
namespace Go.Proofs.Ytmbaimcneffnlaa
open Go.RowKit Go.Deep Go.Joins
/-- The board of a machine that is switched on, with these bytes waiting. -/
abbrev wB (s : ByteArray) (p : Option Addr) (c : Nat) : Bd := ({ bdN with inn := s } : Bd).at p 0 c
theorem row_fat {w : World} {B c : Nat} {p : Option Addr} (h : w.ownsRow B 9 1 (.slice p 0 c) 0 []) : FAt w (.slice p 0 c) [] := reads_of_owns h
theorem told_row {W W' : World} {r : Bd} {f : Value → Value} {e : Ending} (h : Told W r [] f e W') : ∃ p c, e = .returned (f (bdV (r.at p 0 c))) ∧ W'.ownsRow W.heap.size 9 1 (.slice p 0 c) 0 [] ∧ Below W.heap.size W W' := h
theorem give_bytes (want s : ByteArray) (p : Option Addr) (c : Nat) (W : World) (hw : want.size ≤ 1024) (hf : FAt W (.slice p 0 c) []) :
    Calls Try.prog 22 #[bdV (wB want p c), .int .i64 1, .string s] W (Told W { bdN with inn := if want.size + s.size ≤ 1024 then want ++ s else want } [] (fun x => .tuple #[x, .bool (decide (want.size + s.size ≤ 1024))])) := by
  by_cases h : want.size + s.size ≤ 1024
  · rw [if_pos h, decide_eq_true h]
    exact (give_s1 (wB want p c) [] s W hf (by simp) hw h).mono fun _ _ k => told_congr k fun _ _ _ => rfl
  · rw [if_neg h, decide_eq_false h]
    exact (give_s0 (wB want p c) [] s W hf (by simp) hw h).mono fun _ _ k => told_congr k fun _ _ _ => rfl
theorem load_bytes (want : ByteArray) (p : Option Addr) (c : Nat) (W : World) (hf : FAt W (.slice p 0 c) []) :
    Calls Try.prog 15 #[bdV (wB want p c), .int .u64 268435456, .int .i64 1, .int .u64 0] W (Told W { bdN with inn := tailS want } [] (fun x => .tuple #[x, .int .u64 (headS want), .bool true])) :=
  (load_any (wB want p c) [] 268435456 1 0 W hf (by simp)).mono fun _ _ k => told_congr k fun _ _ _ => rfl
theorem tail_at (s : ByteArray) (i : Nat) (h : i < s.size) : headS (s.extract i s.size) = IntKind.u64.wrap (s[i].toNat : Int) ∧ tailS (s.extract i s.size) = s.extract (i + 1) s.size := by
  have hs : (s.extract i s.size).size = s.size - i := by simp
  have h0 : 0 < (s.extract i s.size).size := by omega
  refine ⟨?_, ?_⟩
  · unfold headS
    rw [dif_pos h0, IntKind.wrap_u64]
    have e : (s.extract i s.size)[0] = s[i] := by simp [ByteArray.getElem_extract]
    rw [e]
    have := s[i].toNat_lt
    omega
  · unfold tailS
    rw [if_pos h0, hs]
    apply ByteArray.ext
    simp only [ByteArray.data_extract, Array.extract_extract]
    congr 1
    omega

end Go.Proofs.Ytmbaimcneffnlaa
namespace Go
theorem cons_calls {P : Program} {md : Region.Mode} {ops : Array Oper} {Q : Exit → Act → World → Prop} {S : World → Prop} {fuel : Nat} {listed : Array Bool} {a : Act} {w : World} {i : Nat} {o : Oper} {f : FuncId} {args : Array Value} {R : Value → World → Prop} {rs : List Nat}
    (hi : ops[i]? = some o) (hgd : Region.wanted o (yielded ops a.tmps) = true) (hrun : (execOp a.eval o).run P w = .ok (.enter f args) w) (hc : Calls P f args w fun e w' => ∃ v, e = .returned v ∧ R v w')
    (h : ∀ v w', R v w' → S w' ∧ (S w' → wpAnyH P md ops Q S fuel (listed.setIfInBounds i true) (a.put o.dst v) w')) (hs : AllReadyH P md ops Q S fuel listed a w rs) : AllReadyH P md ops Q S fuel listed a w (i :: rs) := by
  refine AllReadyH.cons hi (fun K hK => ?_) hs
  rw [if_pos hgd]
  unfold Oper.wp
  rw [hrun, Oper.upon_enter]
  refine hc.mono ?_
  rintro e w' ⟨v, rfl, hR⟩
  obtain ⟨h1, h2⟩ := h v w' hR
  exact hK.out _ _ h1 h2

end Go
namespace Go.Proofs.Ytmbaimcneffnlaa
open Go.RowKit Go.Deep Go.Joins
theorem Mem.sub {W w : World} {l l' : List (Nat × Array Value × Nat)} {r r' : List (Nat × Value × Nat × List Value)} (h : Mem W w l r) (hl : l'.Sublist l) (hr : ∀ y ∈ r', y ∈ r) : Mem W w l' r' :=
  ⟨fun x hx => h.cel x (hl.subset hx), (hl.map _).nodup h.nod, fun x hx => h.typ x (hl.subset hx), fun x hx => h.big x (hl.subset hx), fun y hy => h.own y (hr y hy), fun y hy => h.row y (hr y hy), h.below⟩
theorem calls_row {f : FuncId} {args : Array Value} {w : World} {r : Bd} {g : Value → Value} (h : Calls Try.prog f args w (Told w r [] g)) : Calls Try.prog f args w fun e w' => ∃ u, e = .returned u ∧ (∃ p c, u = g (bdV (r.at p 0 c)) ∧ w'.ownsRow w.heap.size 9 1 (.slice p 0 c) 0 [] ∧ Below w.heap.size w w') :=
  h.mono fun _ _ ⟨p, c, he, ho, hb⟩ => ⟨_, he, p, c, rfl, ho, hb⟩
set_option maxRecDepth 100000 in
set_option maxHeartbeats 2000000 in
theorem bytes_walk (L : List ByteArray) (q : Option Addr) (cap : Nat) (W : World) (hL : FAt W (.slice q L.length cap) L) (hls : ∀ s ∈ L, s.size ≤ 140737488351232) :
    Calls Try.prog 5 #[.slice q L.length cap] W fun e W' => e = .returned (.bool true) ∧ Below W.heap.size W W' := by
  have cA := Lib.hid awake_any
  have cN := Lib.hid new_any
  have HL := Lib.hid hL
  have HLS := Lib.hid hls
  have hLle : L.length ≤ 9223372036854775807 := by
    rcases hL.2 with ⟨_, h⟩ | ⟨a, c2, _, h1, h2, _⟩
    · omega
    · unfold maxLen at h2; omega
  clear hL hls
  have X := Lib.hid (Mem.start W)
  go_enter Try.func5, Try.ntmps5
  go_upto_region 4 with (first | (go_at_call 7; (with_reducible refine (cA.out _).mono ?_); rintro e w1 ⟨rfl, k1⟩; have X := Lib.hid (X.out.next k1)) | (go_at_call 23; (with_reducible refine (cN.out _).mono ?_); rintro e w2 ⟨rfl, k2⟩; have X := Lib.hid ((X.out.next k2).newZ)) | (with_reducible refine w_box X.out.b0 rfl rfl rfl rfl ?_; intro wy hwy; have X := Lib.hid (X.out.p0 hwy); clear hwy) | fail)
  replace X : RowKit.Hid (Mem W wy [(w2.heap.size, bdC (wB ⟨#[]⟩ none 0), 30)] [(9, .slice none 0 0, 0, [])]) := Lib.hid (X.out.addrow (World.ownsRow_nil wy W.heap.size 9 1) (Nat.le_refl _) (by decide))
  generalize w2.heap.size = zb at X ⊢
  go_wp2_with fail
  go_loopw [4, 5] (fun s4 s5 wr => ∃ (j : Nat) (want : ByteArray) (p : Option Addr) (c : Nat), j ≤ L.length ∧ s4 = .string want ∧ s5 = .int .i64 j ∧ Hid (want.size ≤ 1024) ∧ Hid (Mem W wr [(zb, bdC (wB want p c), 30)] [(9, .slice p 0 c, 0, [])])) (fun _ s5 _ => L.length - (intOf s5).toNat)
  case atStart => exact ⟨0, ⟨#[]⟩, none, 0, Nat.zero_le _, rfl, rfl, Lib.hid (by decide), X⟩
  case round =>
    clear X
    obtain ⟨j, want, p, c, hj, rfl, rfl, hw, X⟩ := hrel
    by_cases hlt : j < L.length
    · obtain ⟨g, off, c2, e, _, _, hg, hc⟩ := HL.out.cell (by omega)
      simp only [Value.slice.injEq] at e
      obtain ⟨rfl, _, rfl⟩ := e
      have c1 := hc j hlt
      have HC : RowKit.Hid (∀ W', Below W.heap.size W W' → W'.cell? ⟨g, off + j, none⟩ = some (.string L[j])) := Lib.hid fun W' h => (h.cell (p := ⟨g, off + j, none⟩) hg).trans c1
      have hss := HLS.out L[j] (List.getElem_mem _)
      clear c1 hc
      generalize L[j] = s at HC hss
      have HSS := Lib.hid hss
      clear hss
      obtain ⟨nw, hnw⟩ : ∃ x, x = if want.size + s.size ≤ 1024 then want ++ s else want := ⟨_, rfl⟩
      obtain ⟨ok, hok⟩ : ∃ x, x = decide (want.size + s.size ≤ 1024) := ⟨_, rfl⟩
      have HG : RowKit.Hid (∀ W', FAt W' (.slice p 0 c) [] → Calls Try.prog 22 #[bdV (wB want p c), .int .i64 1, .string s] W' (Told W' { bdN with inn := nw } [] (fun x => .tuple #[x, .bool ok]))) := Lib.hid fun W' h => by rw [hnw, hok]; exact give_bytes want s p c W' hw.out h
      have HE := Lib.hid (And.intro hnw hok)
      clear hnw hok
      go_upto_region 8 with (fail)
      go_cut [6, 7] (fun s6 s7 wx => ∃ (zx : Nat) (p2 : Option Addr) (c2 : Nat), s6 = .pointer (some ⟨zx, 0, none⟩) ∧ s7 = .bool ok ∧ RowKit.Hid (Mem W wx [(zx, bdC (wB nw p2 c2), 30), (zb, bdC (wB want p c), 30)] [(9, .slice p2 0 c2, 0, []), (9, .slice p 0 c, 0, [])]))
      case first =>
        refine wp_region_held (S := fun w => Box w zb (wB want p c) ∧ w.cell? ⟨g, off + j, none⟩ = some (.string s)) (by kernel_rfl) ?_
        have hd : { wr with drawn := wr.drawn + 1 } = wr.drew := rfl
        rw [hd]
        clear hd
        replace X := Lib.hid (X.out.next (Below.refl _ _).drew)
        generalize wr.drew = wz at X ⊢
        have hS : Box wz zb (wB want p c) ∧ wz.cell? ⟨g, off + j, none⟩ = some (.string s) := ⟨X.out.b0, HC.out _ X.out.below⟩
        refine wpAnyH_take (i := 0) (oi := ⟨some 25, Op.load 30 (.tmp 3), _, _, _, none⟩) (v := _) rfl (by kernel_rfl) (by kernel_rfl) (by kernel_rfl) (fun _ _ _ h => h) (yields_load rfl rfl rfl (fun w hw => hw.1.load)) hS ?_
        simp only [Act.put, List.setIfInBounds_toArray, List.set_cons_zero, List.set_cons_succ]
        refine wpAnyH_take (i := 1) (oi := ⟨some 26, Op.move (.tmp 0), _, _, _, none⟩) (v := ?_) rfl (by kernel_rfl) (by kernel_rfl) (by kernel_rfl) (fun _ _ _ h => h) (Or.inl ⟨by rfl, ?_⟩) hS ?_
        rotate_left
        · (intro w hSw; (try dsimp only at hSw); go_simp; try with_reducible rfl)
        simp only [Act.put, List.setIfInBounds_toArray, List.set_cons_zero, List.set_cons_succ]
        refine wpAnyH_take (i := 2) (oi := ⟨some 27, Op.move (.tmp 5), _, _, _, none⟩) (v := ?_) rfl (by kernel_rfl) (by kernel_rfl) (by kernel_rfl) (fun _ _ _ h => h) (Or.inl ⟨by rfl, ?_⟩) hS ?_
        rotate_left
        · (intro w hSw; (try dsimp only at hSw); go_simp; try with_reducible rfl)
        simp only [Act.put, List.setIfInBounds_toArray, List.set_cons_zero, List.set_cons_succ]
        refine wpAnyH_take (i := 3) (oi := ⟨some 28, Op.indexAddr 23 (.tmp 26) (.tmp 27), _, _, _, none⟩) (v := ?_) rfl (by kernel_rfl) (by kernel_rfl) (by kernel_rfl) (fun _ _ _ h => h) (Or.inl ⟨by rfl, ?_⟩) hS ?_
        rotate_left
        · (intro w hSw; (try dsimp only at hSw); go_simp; try with_reducible rfl)
        simp only [Act.put, List.setIfInBounds_toArray, List.set_cons_zero, List.set_cons_succ]
        refine wpAnyH_take (i := 4) (oi := ⟨some 29, Op.load 9 (.tmp 28), _, _, _, none⟩) (v := ?_) rfl (by kernel_rfl) (by kernel_rfl) (by kernel_rfl) (fun _ _ _ h => h) (Or.inl ⟨by rfl, ?_⟩) hS ?_
        rotate_left
        · (rintro w ⟨_, hSw⟩; go_simp; try with_reducible rfl)
        simp only [Act.put, List.setIfInBounds_toArray, List.set_cons_zero, List.set_cons_succ]
        refine wpAnyH_ready (rs := [5, 9]) (by kernel_rfl) (by simp) ?_
        refine cons_calls (i := 5) (o := ⟨some 30, Op.call { callee := .value (.func 22), args := #[.tmp 25, .const (.int .i64 1), .tmp 29], argTypes := #[30, 3, 9] }, _, _, _, _⟩) rfl (by kernel_rfl) (by go_simp) (calls_row (HG.out _ (row_fat X.out.r0))) ?_ ?_
        · rintro v' w' ⟨p2, c2, hv', ho, kk⟩
          subst hv'
          replace X := Lib.hid ((X.out.next kk).addrow ho X.out.below.size (by decide))
          refine ⟨⟨X.out.b0, HC.out _ X.out.below⟩, fun hS => ?_⟩
          clear ho kk
          simp only [Act.put, List.setIfInBounds_toArray, List.set_cons_zero, List.set_cons_succ]
          refine wpAnyH_take (i := 6) (oi := ⟨some 24, Op.move (.tmp 30), _, _, _, _⟩) (v := ?_) rfl (by kernel_rfl) (by kernel_rfl) (by kernel_rfl) (fun _ _ _ h => h) (Or.inl ⟨by rfl, ?_⟩) hS ?_
          rotate_left
          · (intro w hSw; (try dsimp only at hSw); go_simp; try with_reducible rfl)
          simp only [Act.put, List.setIfInBounds_toArray, List.set_cons_zero, List.set_cons_succ]
          refine wpAnyH_take (i := 7) (oi := ⟨some 31, Op.extract (.tmp 24) 0, _, _, _, _⟩) (v := ?_) rfl (by kernel_rfl) (by kernel_rfl) (by kernel_rfl) (fun _ _ _ h => h) (Or.inl ⟨by rfl, ?_⟩) hS ?_
          rotate_left
          · (intro w hSw; (try dsimp only at hSw); go_simp; try with_reducible rfl)
          simp only [Act.put, List.setIfInBounds_toArray, List.set_cons_zero, List.set_cons_succ]
          refine wpAnyH_take (i := 8) (oi := ⟨some 32, Op.extract (.tmp 24) 1, _, _, _, _⟩) (v := ?_) rfl (by kernel_rfl) (by kernel_rfl) (by kernel_rfl) (fun _ _ _ h => h) (Or.inl ⟨by rfl, ?_⟩) hS ?_
          rotate_left
          · (intro w hSw; (try dsimp only at hSw); go_simp; try with_reducible rfl)
          simp only [Act.put, List.setIfInBounds_toArray, List.set_cons_zero, List.set_cons_succ]
          refine held_op (i := 9) (o := ⟨some 6, Op.alloc 30, _, _, _, _⟩) (w' := w'.alloc zeroO) (v := .pointer (some ⟨w'.heap.size, 0, none⟩)) (by kernel_rfl) rfl rfl (by go_simp) ⟨X.out.newZ.b1, HC.out _ X.out.newZ.below⟩ ?_
          simp only [Act.put, List.setIfInBounds_toArray, List.set_cons_zero, List.set_cons_succ]
          replace X := Lib.hid X.out.newZ
          have hS := And.intro X.out.b1 (HC.out _ X.out.below)
          refine held_store (i := 10) (o := ⟨none, Op.store 30 (.tmp 6) (.tmp 31), _, _, _, none⟩) (by kernel_rfl) rfl rfl rfl rfl rfl (store_box _ _ _ _ X.out.b0 (bdC_size _)) ⟨(X.out.p0 rfl).b1, HC.out _ (X.out.p0 (cs' := bdC (wB nw p2 c2)) rfl).below⟩ ?_
          simp only [Act.put]
          replace X := Lib.hid (X.out.p0 (cs' := bdC (wB nw p2 c2)) rfl)
          replace hS := And.intro X.out.b1 (HC.out _ X.out.below)
          refine wpAnyH_take (i := 11) (oi := ⟨some 7, Op.assign (.tmp 32), _, _, _, _⟩) (v := ?_) rfl (by kernel_rfl) (by kernel_rfl) (by kernel_rfl) (fun _ _ _ h => h) (Or.inl ⟨by rfl, ?_⟩) hS ?_
          rotate_left
          · (intro w hSw; (try dsimp only at hSw); go_simp; try with_reducible rfl)
          simp only [Act.put, List.setIfInBounds_toArray, List.set_cons_zero, List.set_cons_succ]
          refine wpAnyH_done (by kernel_rfl) ?_ _
          go_wp2_with fail
          go_meet
          exact ⟨_, p2, c2, rfl, rfl, X⟩
        refine cons_op (i := 9) (o := ⟨some 6, Op.alloc 30, _, _, _, _⟩) (w' := wz.alloc zeroO) (v := .pointer (some ⟨wz.heap.size, 0, none⟩)) rfl rfl (by go_simp) ⟨X.out.newZ.b1, HC.out _ X.out.newZ.below⟩ ?_ AllReadyH.nil
        simp only [Act.put, List.setIfInBounds_toArray, List.set_cons_zero, List.set_cons_succ]
        replace X := Lib.hid X.out.newZ
        have hS := And.intro X.out.b1 (HC.out _ X.out.below)
        refine held_calls (i := 5) (o := ⟨some 30, Op.call { callee := .value (.func 22), args := #[.tmp 25, .const (.int .i64 1), .tmp 29], argTypes := #[30, 3, 9] }, _, _, _, _⟩) (by kernel_rfl) rfl (by kernel_rfl) (by go_simp) (calls_row (HG.out _ (row_fat X.out.r0))) ?_
        rintro v' w' ⟨p2, c2, hv', ho, kk⟩
        subst hv'
        replace X := Lib.hid ((X.out.next kk).addrow ho X.out.below.size (by decide))
        refine ⟨⟨X.out.b1, HC.out _ X.out.below⟩, fun hS => ?_⟩
        clear ho kk
        simp only [Act.put, List.setIfInBounds_toArray, List.set_cons_zero, List.set_cons_succ]
        refine wpAnyH_take (i := 6) (oi := ⟨some 24, Op.move (.tmp 30), _, _, _, _⟩) (v := ?_) rfl (by kernel_rfl) (by kernel_rfl) (by kernel_rfl) (fun _ _ _ h => h) (Or.inl ⟨by rfl, ?_⟩) hS ?_
        rotate_left
        · (intro w hSw; (try dsimp only at hSw); go_simp; try with_reducible rfl)
        simp only [Act.put, List.setIfInBounds_toArray, List.set_cons_zero, List.set_cons_succ]
        refine wpAnyH_take (i := 7) (oi := ⟨some 31, Op.extract (.tmp 24) 0, _, _, _, _⟩) (v := ?_) rfl (by kernel_rfl) (by kernel_rfl) (by kernel_rfl) (fun _ _ _ h => h) (Or.inl ⟨by rfl, ?_⟩) hS ?_
        rotate_left
        · (intro w hSw; (try dsimp only at hSw); go_simp; try with_reducible rfl)
        simp only [Act.put, List.setIfInBounds_toArray, List.set_cons_zero, List.set_cons_succ]
        refine wpAnyH_take (i := 8) (oi := ⟨some 32, Op.extract (.tmp 24) 1, _, _, _, _⟩) (v := ?_) rfl (by kernel_rfl) (by kernel_rfl) (by kernel_rfl) (fun _ _ _ h => h) (Or.inl ⟨by rfl, ?_⟩) hS ?_
        rotate_left
        · (intro w hSw; (try dsimp only at hSw); go_simp; try with_reducible rfl)
        simp only [Act.put, List.setIfInBounds_toArray, List.set_cons_zero, List.set_cons_succ]
        refine held_store (i := 10) (o := ⟨none, Op.store 30 (.tmp 6) (.tmp 31), _, _, _, none⟩) (by kernel_rfl) rfl rfl rfl rfl rfl (store_box _ _ _ _ X.out.b0 (bdC_size _)) ⟨(X.out.p0 rfl).b1, HC.out _ (X.out.p0 (cs' := bdC (wB nw p2 c2)) rfl).below⟩ ?_
        simp only [Act.put]
        replace X := Lib.hid (X.out.p0 (cs' := bdC (wB nw p2 c2)) rfl)
        replace hS := And.intro X.out.b1 (HC.out _ X.out.below)
        refine wpAnyH_take (i := 11) (oi := ⟨some 7, Op.assign (.tmp 32), _, _, _, _⟩) (v := ?_) rfl (by kernel_rfl) (by kernel_rfl) (by kernel_rfl) (fun _ _ _ h => h) (Or.inl ⟨by rfl, ?_⟩) hS ?_
        rotate_left
        · (intro w hSw; (try dsimp only at hSw); go_simp; try with_reducible rfl)
        simp only [Act.put, List.setIfInBounds_toArray, List.set_cons_zero, List.set_cons_succ]
        refine wpAnyH_done (by kernel_rfl) ?_ _
        go_wp2_with fail
        go_meet
        exact ⟨_, p2, c2, rfl, rfl, X⟩
      case rest =>
        clear X HG
        obtain ⟨zx, p2, c2, rfl, rfl, X⟩ := hcut
        have hsum : wrap64 ((want.size : Int) + s.size) = (want.size : Int) + s.size := by
          have h1 := hw.out
          have h2 := HSS.out
          unfold wrap64
          omega
        have c1 := HC.out _ X.out.below
        obtain ⟨e1, e2⟩ := HE.out
        by_cases hfit : want.size + s.size ≤ 1024
        · rw [if_pos hfit] at e1
          rw [decide_eq_true hfit] at e2
          subst e1 e2
          have hd : decide ((want.size : Int) + s.size ≤ 1024) = true := decide_eq_true (by omega)
          have hs1 : ¬ (9223372036854775807 < (want.size : Int) + s.size) := by omega
          have hs2 : ¬ (9223372036854775807 < want.size + s.size) := by omega
          have HFIT := Lib.hid hfit
          clear hfit
          go_upto_region 12 with (fail)
          refine wp_region_held (S := fun w => Box w zx (wB (want ++ s) p2 c2) ∧ w.cell? ⟨g, off + j, none⟩ = some (.string s)) (by kernel_rfl) ?_
          have hdr : { wc with drawn := wc.drawn + 1 } = wc.drew := rfl
          rw [hdr]
          clear hdr
          replace X := Lib.hid (X.out.next (Below.refl _ _).drew)
          clear c1
          generalize wc.drew = wz at X ⊢
          have hS : Box wz zx (wB (want ++ s) p2 c2) ∧ wz.cell? ⟨g, off + j, none⟩ = some (.string s) := ⟨X.out.b0, HC.out _ X.out.below⟩
          refine wpAnyH_take (i := 0) (oi := ⟨some 45, Op.load 30 (.tmp 6), _, _, _, none⟩) (v := _) rfl (by kernel_rfl) (by kernel_rfl) (by kernel_rfl) (fun _ _ _ h => h) (yields_load rfl rfl rfl (fun w hw => hw.1.load)) hS ?_
          simp only [Act.put, List.setIfInBounds_toArray, List.set_cons_zero, List.set_cons_succ]
          refine wpAnyH_take (i := 1) (oi := ⟨some 46, Op.move (.tmp 4), _, _, _, none⟩) (v := ?_) rfl (by kernel_rfl) (by kernel_rfl) (by kernel_rfl) (fun _ _ _ h => h) (Or.inl ⟨by rfl, ?_⟩) hS ?_
          rotate_left
          · (intro w hSw; (try dsimp only at hSw); go_simp; try with_reducible rfl)
          simp only [Act.put, List.setIfInBounds_toArray, List.set_cons_zero, List.set_cons_succ]
          refine wpAnyH_take (i := 2) (oi := ⟨some 47, Op.move (.tmp 0), _, _, _, none⟩) (v := ?_) rfl (by kernel_rfl) (by kernel_rfl) (by kernel_rfl) (fun _ _ _ h => h) (Or.inl ⟨by rfl, ?_⟩) hS ?_
          rotate_left
          · (intro w hSw; (try dsimp only at hSw); go_simp; try with_reducible rfl)
          simp only [Act.put, List.setIfInBounds_toArray, List.set_cons_zero, List.set_cons_succ]
          refine wpAnyH_take (i := 3) (oi := ⟨some 48, Op.move (.tmp 5), _, _, _, none⟩) (v := ?_) rfl (by kernel_rfl) (by kernel_rfl) (by kernel_rfl) (fun _ _ _ h => h) (Or.inl ⟨by rfl, ?_⟩) hS ?_
          rotate_left
          · (intro w hSw; (try dsimp only at hSw); go_simp; try with_reducible rfl)
          simp only [Act.put, List.setIfInBounds_toArray, List.set_cons_zero, List.set_cons_succ]
          refine wpAnyH_take (i := 4) (oi := ⟨some 49, Op.indexAddr 23 (.tmp 47) (.tmp 48), _, _, _, none⟩) (v := ?_) rfl (by kernel_rfl) (by kernel_rfl) (by kernel_rfl) (fun _ _ _ h => h) (Or.inl ⟨by rfl, ?_⟩) hS ?_
          rotate_left
          · (intro w hSw; (try dsimp only at hSw); go_simp; try with_reducible rfl)
          simp only [Act.put, List.setIfInBounds_toArray, List.set_cons_zero, List.set_cons_succ]
          refine wpAnyH_take (i := 5) (oi := ⟨some 50, Op.load 9 (.tmp 49), _, _, _, none⟩) (v := ?_) rfl (by kernel_rfl) (by kernel_rfl) (by kernel_rfl) (fun _ _ _ h => h) (Or.inl ⟨by rfl, ?_⟩) hS ?_
          rotate_left
          · (rintro w ⟨_, hSw⟩; go_simp; try with_reducible rfl)
          simp only [Act.put, List.setIfInBounds_toArray, List.set_cons_zero, List.set_cons_succ]
          refine wpAnyH_take (i := 6) (oi := ⟨some 51, Op.binOp .add 9 (.tmp 46) (.tmp 50) 9, _, _, _, none⟩) (v := ?_) rfl (by kernel_rfl) (by kernel_rfl) (by kernel_rfl) (fun _ _ _ h => h) (Or.inl ⟨by rfl, ?_⟩) hS ?_
          rotate_left
          · (intro w hSw; (try dsimp only at hSw); go_simp; try with_reducible rfl)
          simp only [Act.put, List.setIfInBounds_toArray, List.set_cons_zero, List.set_cons_succ]
          refine held_store (i := 7) (o := ⟨none, Op.store 30 (.tmp 3) (.tmp 45), _, _, _, none⟩) (by kernel_rfl) rfl rfl rfl rfl rfl (store_box _ _ _ _ X.out.b1 (bdC_size _)) ⟨(X.out.p1 rfl).b0, HC.out _ (X.out.p1 (cs' := bdC (wB (want ++ s) p2 c2)) rfl).below⟩ ?_
          simp only [Act.put]
          replace X := Lib.hid (X.out.p1 (cs' := bdC (wB (want ++ s) p2 c2)) rfl)
          replace hS := And.intro X.out.b0 (HC.out _ X.out.below)
          refine wpAnyH_take (i := 8) (oi := ⟨some 4, Op.assign (.tmp 51), _, _, _, _⟩) (v := ?_) rfl (by kernel_rfl) (by kernel_rfl) (by kernel_rfl) (fun _ _ _ h => h) (Or.inl ⟨by rfl, ?_⟩) hS ?_
          rotate_left
          · (intro w hSw; (try dsimp only at hSw); go_simp; try with_reducible rfl)
          simp only [Act.put, List.setIfInBounds_toArray, List.set_cons_zero, List.set_cons_succ]
          refine wpAnyH_done (by kernel_rfl) ?_ _
          go_wp2_with fail
          go_round
          case rel => exact ⟨j + 1, want ++ s, p2, c2, by omega, rfl, by go_num, Lib.hid (by rw [ByteArray.size_append]; exact HFIT.out), Lib.hid (X.out.sub (by simp) (by simp))⟩
          case measure => simp [intOf]; omega
        · rw [if_neg hfit] at e1
          rw [decide_eq_false hfit] at e2
          subst e1 e2
          have hd : decide ((nw.size : Int) + s.size ≤ 1024) = false := decide_eq_false (by omega)
          clear hfit
          go_wp2_with fail
          go_round
          case rel => exact ⟨j + 1, nw, p, c, by omega, rfl, by go_num, hw, Lib.hid (X.out.sub (by simp) (by simp))⟩
          case measure => simp [intOf]; omega
    · have hlt2 := hlt
      have hw2 := hw.out
      clear HL HLS hLle hj cN hlt2
      go_wp2_with fail
      clear hlt
      go_loopw [8] (fun s8 wq => ∃ (i : Nat) (p : Option Addr) (c : Nat), i ≤ want.size ∧ s8 = .int .i64 i ∧ Hid (Mem W wq [(zb, bdC (wB (want.extract i want.size) p c), 30)] [(9, .slice p 0 c, 0, [])])) (fun s8 _ => want.size - (intOf s8).toNat)
      case atStart => exact ⟨0, p, c, Nat.zero_le _, rfl, by rw [ByteArray.extract_zero_size]; exact X⟩
      case round =>
        clear X
        obtain ⟨i, p, c, hi, rfl, X⟩ := hrel
        by_cases hlt : i < want.size
        · have ht := tail_at want i hlt
          have HG : RowKit.Hid (∀ W', FAt W' (.slice p 0 c) [] → Calls Try.prog 15 #[bdV (wB (want.extract i want.size) p c), .int .u64 268435456, .int .i64 1, .int .u64 0] W' (Told W' { bdN with inn := want.extract (i + 1) want.size } [] (fun x => .tuple #[x, .int .u64 (IntKind.u64.wrap (want[i].toNat : Int)), .bool true]))) := Lib.hid fun W' h => by
            have k := load_bytes (want.extract i want.size) p c W' h
            rw [ht.1, ht.2] at k
            exact k
          clear ht
          go_wp2_with (first | (with_reducible refine wpList_load_by rfl rfl (Box.load X.out.b0) rfl ?_) | (go_at_call 15; (with_reducible refine (HG.out _ (row_fat X.out.r0)).mono ?_); rintro e w3 ⟨p2, c2, rfl, ho, kk⟩; have X := Lib.hid (((X.out.next kk).addrow ho X.out.below.size (by decide)).newZ); clear ho kk) | (with_reducible refine w_box X.out.b0 rfl rfl rfl rfl ?_; intro wy hwy; have X := Lib.hid (X.out.p0 hwy); clear hwy) | (with_reducible refine w_box X.out.b1 rfl rfl rfl rfl ?_; intro wy hwy; have X := Lib.hid (X.out.p1 hwy); clear hwy) | fail)
          go_round
          case rel => exact ⟨i + 1, p2, c2, by omega, by go_num, Lib.hid (X.out.sub (List.sublist_cons_self _ _) (fun y hy => List.mem_cons.2 (.inl (List.mem_singleton.1 hy))))⟩
          case measure => simp [intOf]; omega
        · obtain rfl : i = want.size := by omega
          have hx : want.extract want.size want.size = ⟨#[]⟩ := by
            apply ByteArray.ext
            simp
          rw [hx] at X
          have HG : RowKit.Hid (∀ W', FAt W' (.slice p 0 c) [] → Calls Try.prog 15 #[bdV (wB ⟨#[]⟩ p c), .int .u64 268435456, .int .i64 1, .int .u64 0] W' (Told W' { bdN with inn := ⟨#[]⟩ } [] (fun x => .tuple #[x, .int .u64 0, .bool true]))) := Lib.hid fun W' h => load_bytes ⟨#[]⟩ p c W' h
          clear hx hlt
          go_upto_region 21 with (first | (with_reducible refine wpList_load_by rfl rfl (Box.load X.out.b0) rfl ?_) | (go_at_call 15; (with_reducible refine (HG.out _ (row_fat X.out.r0)).mono ?_); rintro e w3 ⟨p2, c2, rfl, ho, kk⟩; have X := Lib.hid (((X.out.next kk).addrow ho X.out.below.size (by decide)).newZ); clear ho kk) | (with_reducible refine w_box X.out.b0 rfl rfl rfl rfl ?_; intro wy hwy; have X := Lib.hid (X.out.p0 hwy); clear hwy) | fail)
          have m1 : wy.cell? ⟨zb, 2, none⟩ = some (.string ⟨#[]⟩) := X.out.b1.cell_inn
          go_wp2_with fail
          go_ret
          exact ⟨rfl, X.out.below⟩

end Go.Proofs.Ytmbaimcneffnlaa
