/- LogMeet's walk: two majorities of sets that differ in one member at most have a member in common. -/
import Derived.Test.YthlghmechldegaaP
namespace Go.Proofs.Ythlghmechldegaa
open Go.RowKit Go.Deep Go.Joins
set_option maxRecDepth 100000
theorem set_new (w : World) (f : Nat → Bool) : (Instr.storeAt 24 (.pointer (some ⟨w.heap.size, 0, none⟩)) (setV f)).run Try.prog (w.alloc (.cells noC 24)) = .ok () (w.alloc (setO f)) :=
  run_storeAt_new w 24 _ (setC f) (by rw [size24, setC_size]) (by rw [setC_size]; rfl) (set_one f)
theorem rem8 (c : Int) : ∃ κ : Nat, κ < 8 ∧ wrap64 ((IntKind.u64.wrap c).tmod 8) = κ := by
  have h0 : 0 ≤ IntKind.u64.wrap c := by rw [IntKind.wrap_u64]; omega
  rw [Int.tmod_eq_emod_of_nonneg h0]
  refine ⟨(IntKind.u64.wrap c % 8).toNat, by omega, ?_⟩
  unfold wrap64
  omega
/-- Three sets in a function's own blocks. -/
structure M3 (W w : World) (s a b : Nat → Bool) : Prop where
  s : SBox w W.heap.size s
  a : SBox w (W.heap.size + 1) a
  b : SBox w (W.heap.size + 1 + 1) b
  below : Below W.heap.size W w
theorem M3.start (W : World) (s a b : Nat → Bool) : M3 W (((W.alloc (setO s)).alloc (setO a)).alloc (setO b)) s a b := by
  have e1 : (W.alloc (setO s)).heap.size = W.heap.size + 1 := by simp
  have e2 : ((W.alloc (setO s)).alloc (setO a)).heap.size = W.heap.size + 1 + 1 := by simp
  refine ⟨((SBox.new W s).alloc _).alloc _, ?_, ?_, ((below1 W _).alloc (by simp) _).alloc (by simp; omega) _⟩
  · have := (SBox.new (W.alloc (setO s)) a).alloc (setO b); rwa [e1] at this
  · have := SBox.new ((W.alloc (setO s)).alloc (setO a)) b; rwa [e2] at this
theorem M3.next {W w w' : World} {s a b : Nat → Bool} (k : M3 W w s a b) (j : Below w.heap.size w w') : M3 W w' s a b := ⟨k.s.next j, k.a.next j, k.b.next j, below_then k.below (Nat.le_refl _) j⟩
/-- And a fourth one. -/
structure M4 (W w : World) (g : Nat) (s a b t : Nat → Bool) : Prop where
  m : M3 W w s a b
  t : SBox w g t
  far : W.heap.size + 2 < g
theorem M4.start {W w : World} {s a b : Nat → Bool} (k : M3 W w s a b) (t : Nat → Bool) : M4 W (w.alloc (setO t)) w.heap.size s a b t := ⟨k.next (below1 _ _), SBox.new w t, k.b.lt⟩
theorem M4.next {W w w' : World} {g : Nat} {s a b t : Nat → Bool} (k : M4 W w g s a b t) (j : Below w.heap.size w w') : M4 W w' g s a b t := ⟨k.m.next j, k.t.next j, k.far⟩
theorem M4.put {W w : World} {g : Nat} {s a b t : Nat → Bool} (k : M4 W w g s a b t) (u : Nat → Bool) : M4 W (w.setRow g (setC u)) g s a b u := by
  have := k.far
  exact ⟨⟨k.m.s.over (by omega) _, k.m.a.over (by omega) _, k.m.b.over (by omega) _, below_setRow k.m.below (by omega) _⟩, k.t.mine u, k.far⟩
set_option maxHeartbeats 8000000 in
theorem meet_any (s a b : Nat → Bool) (change : Int) (W : World) : Calls Try.prog 6 #[setV s, .int .i64 change, setV a, setV b] W fun r W' => r = .returned (.bool true) ∧ Below W.heap.size W W' := by
  have C0 := Lib.hid (fun W' => awake_any W')
  go_enter Try.func6, Try.ntmps6
  go_upto_region 1 with (fail)
  have Y := Lib.hid (M3.start W s a b)
  generalize ((W.alloc (setO s)).alloc (setO a)).alloc (setO b) = w0 at *
  go_upto_region 4 with (first | (go_at_call 8; (with_reducible refine (C0.out _).mono ?_); rintro r wb ⟨rfl, kk⟩; have Y := Lib.hid (Y.out.next kk); clear kk) | (with_reducible refine wpList_load_by rfl rfl Y.out.s.load rfl ?_) | (with_reducible refine wpList_store_by rfl rfl (set_new _ _) rfl rfl ?_) | fail)
  have X := Lib.hid (M4.start Y.out s)
  clear Y
  generalize wb.heap.size = g at *
  generalize wb.alloc (setO s) = w2 at *
  go_upto_region 5 with (fail)
  obtain ⟨κ, hk8, hκ⟩ := rem8 change
  rw [hκ]
  clear hκ
  by_cases hk7 : κ < 7
  · have hl0 : ((κ : Int) < 7) := by omega
    have HT := Lib.hid (X.out.t.cell κ hk7)
    have HP := Lib.hid (X.out.t.put κ hk7 (!(s κ)))
    have X1 := Lib.hid (X.out.put (upd s κ (!(s κ))))
    go_upto_region 7 with (first | (with_reducible refine wpList_load_by rfl rfl HT.out rfl ?_) | (with_reducible refine wpList_store_by rfl rfl HP.out rfl rfl ?_) | fail)
    have X := X1
    clear X1 HT HP
    generalize w2.setRow g (setC (upd s κ (!(s κ)))) = w3 at *
    obtain ⟨t, ht⟩ : ∃ t, t = upd s κ (!(s κ)) := ⟨_, rfl⟩
    rw [← ht] at X
    have HTT := Lib.hid ht
    clear ht
    have HD := Lib.hid (show ∀ i, i < 7 → s i ≠ t i → i = κ from by intro i _ hne; rw [HTT.out] at hne; unfold upd at hne; split at hne; assumption; exact absurd rfl hne)
    have C1 := Lib.hid (fun W' => maj_any s a W')
    have C2 := Lib.hid (fun W' => maj_any t b W')
    have HM0 := Lib.hid (fun h1 h2 => meet s t a b κ HD.out h1 h2)
    rcases Bool.eq_false_or_eq_true (mj s a) with h1 | h1
    · rcases Bool.eq_false_or_eq_true (mj t b) with h2 | h2
      · have HM := Lib.hid (HM0.out h1 h2)
        rw [h1] at C1
        rw [h2] at C2
        clear HM0 HD h1 h2
        go_wp2_with (first | (with_reducible refine wpList_load_by rfl rfl X.out.m.s.load rfl ?_) | (with_reducible refine wpList_load_by rfl rfl X.out.m.a.load rfl ?_) | (with_reducible refine wpList_load_wanted rfl rfl X.out.m.b.load rfl ?_) | (with_reducible refine wpList_load_wanted rfl rfl X.out.t.load rfl ?_) | (go_at_call 35; (with_reducible first | refine (C1.out _).mono ?_ | refine (C2.out _).mono ?_); rintro r wb ⟨rfl, kk⟩; have X := Lib.hid (X.out.next kk); clear kk) | fail)
        go_loopw [11] (fun i wr => ∃ (k : Nat), k ≤ 7 ∧ i = .int .i64 k ∧ RowKit.Hid (M4 W wr g s a b t) ∧ RowKit.Hid (∀ j, j < k → (a j && b j && s j && t j) = false)) (fun i _ => 7 - (intOf i).toNat)
        case atStart => exact ⟨0, by omega, rfl, X, Lib.hid fun j hj => absurd hj (by omega)⟩
        case round =>
          obtain ⟨k, hk, rfl, HX, HJ⟩ := hrel
          clear X
          by_cases h7 : k < 7
          · have hl : ((k : Int) < 7) := by omega
            have KA := Lib.hid (HX.out.m.a.cell k h7)
            have KB := Lib.hid (HX.out.m.b.cell k h7)
            have KS := Lib.hid (HX.out.m.s.cell k h7)
            have KT := Lib.hid (HX.out.t.cell k h7)
            have HN := Lib.hid (show (a k && b k && s k && t k) = false → ∀ j, j < k + 1 → (a j && b j && s j && t j) = false from fun h j hj => by
              by_cases e : j = k
              · subst e; exact h
              · exact HJ.out j (by omega))
            generalize a k = x1 at KA HN
            generalize b k = x2 at KB HN
            generalize s k = x3 at KS HN
            generalize t k = x4 at KT HN
            cases x1
            · go_wp2_with (first | (with_reducible refine wpList_load_by rfl rfl KA.out rfl ?_) | (with_reducible refine wpList_load_wanted rfl rfl KB.out rfl ?_) | (with_reducible refine wpList_load_wanted rfl rfl KS.out rfl ?_) | (with_reducible refine wpList_load_wanted rfl rfl KT.out rfl ?_) | fail)
              go_round
              case rel => exact ⟨k + 1, by omega, rfl, HX, Lib.hid (HN.out (by simp))⟩
              case measure => simp [intOf]; omega
            · cases x2
              · go_wp2_with (first | (with_reducible refine wpList_load_by rfl rfl KA.out rfl ?_) | (with_reducible refine wpList_load_wanted rfl rfl KB.out rfl ?_) | (with_reducible refine wpList_load_wanted rfl rfl KS.out rfl ?_) | (with_reducible refine wpList_load_wanted rfl rfl KT.out rfl ?_) | fail)
                go_round
                case rel => exact ⟨k + 1, by omega, rfl, HX, Lib.hid (HN.out (by simp))⟩
                case measure => simp [intOf]; omega
              · cases x3
                · go_wp2_with (first | (with_reducible refine wpList_load_by rfl rfl KA.out rfl ?_) | (with_reducible refine wpList_load_wanted rfl rfl KB.out rfl ?_) | (with_reducible refine wpList_load_wanted rfl rfl KS.out rfl ?_) | (with_reducible refine wpList_load_wanted rfl rfl KT.out rfl ?_) | fail)
                  go_round
                  case rel => exact ⟨k + 1, by omega, rfl, HX, Lib.hid (HN.out (by simp))⟩
                  case measure => simp [intOf]; omega
                · cases x4
                  · go_wp2_with (first | (with_reducible refine wpList_load_by rfl rfl KA.out rfl ?_) | (with_reducible refine wpList_load_wanted rfl rfl KB.out rfl ?_) | (with_reducible refine wpList_load_wanted rfl rfl KS.out rfl ?_) | (with_reducible refine wpList_load_wanted rfl rfl KT.out rfl ?_) | fail)
                    go_round
                    case rel => exact ⟨k + 1, by omega, rfl, HX, Lib.hid (HN.out (by simp))⟩
                    case measure => simp [intOf]; omega
                  · go_wp2_with (first | (with_reducible refine wpList_load_by rfl rfl KA.out rfl ?_) | (with_reducible refine wpList_load_wanted rfl rfl KB.out rfl ?_) | (with_reducible refine wpList_load_wanted rfl rfl KS.out rfl ?_) | (with_reducible refine wpList_load_wanted rfl rfl KT.out rfl ?_) | fail)
                    go_ret
                    exact ⟨rfl, HX.out.m.below⟩
          · obtain rfl : k = 7 := by omega
            obtain ⟨i, hi, e⟩ := HM.out
            rw [HJ.out i hi] at e
            cases e
      · rw [h1] at C1
        rw [h2] at C2
        go_wp2_with (first | (with_reducible refine wpList_load_by rfl rfl X.out.m.s.load rfl ?_) | (with_reducible refine wpList_load_by rfl rfl X.out.m.a.load rfl ?_) | (with_reducible refine wpList_load_wanted rfl rfl X.out.m.b.load rfl ?_) | (with_reducible refine wpList_load_wanted rfl rfl X.out.t.load rfl ?_) | (go_at_call 35; (with_reducible first | refine (C1.out _).mono ?_ | refine (C2.out _).mono ?_); rintro r wb ⟨rfl, kk⟩; have X := Lib.hid (X.out.next kk); clear kk) | fail)
        go_ret
        exact ⟨rfl, X.out.m.below⟩
    · rw [h1] at C1
      go_wp2_with (first | (with_reducible refine wpList_load_by rfl rfl X.out.m.s.load rfl ?_) | (with_reducible refine wpList_load_by rfl rfl X.out.m.a.load rfl ?_) | (with_reducible refine wpList_load_wanted rfl rfl X.out.m.b.load rfl ?_) | (with_reducible refine wpList_load_wanted rfl rfl X.out.t.load rfl ?_) | (go_at_call 35; (with_reducible first | refine (C1.out _).mono ?_ | refine (C2.out _).mono ?_); rintro r wb ⟨rfl, kk⟩; have X := Lib.hid (X.out.next kk); clear kk) | fail)
      go_ret
      exact ⟨rfl, X.out.m.below⟩
  · have hl0 : ¬ ((κ : Int) < 7) := by omega
    obtain ⟨t, ht⟩ : ∃ t, t = s := ⟨_, rfl⟩
    have X1 := Lib.hid (show M4 W w2 g s a b t from ht ▸ X.out)
    have X := X1
    clear X1
    have HTT := Lib.hid ht
    clear ht
    have HD := Lib.hid (show ∀ i, i < 7 → s i ≠ t i → i = κ from by intro i _ hne; rw [HTT.out] at hne; exact absurd rfl hne)
    have C1 := Lib.hid (fun W' => maj_any s a W')
    have C2 := Lib.hid (fun W' => maj_any t b W')
    have HM0 := Lib.hid (fun h1 h2 => meet s t a b κ HD.out h1 h2)
    rcases Bool.eq_false_or_eq_true (mj s a) with h1 | h1
    · rcases Bool.eq_false_or_eq_true (mj t b) with h2 | h2
      · have HM := Lib.hid (HM0.out h1 h2)
        rw [h1] at C1
        rw [h2] at C2
        clear HM0 HD h1 h2
        go_wp2_with (first | (with_reducible refine wpList_load_by rfl rfl X.out.m.s.load rfl ?_) | (with_reducible refine wpList_load_by rfl rfl X.out.m.a.load rfl ?_) | (with_reducible refine wpList_load_wanted rfl rfl X.out.m.b.load rfl ?_) | (with_reducible refine wpList_load_wanted rfl rfl X.out.t.load rfl ?_) | (go_at_call 35; (with_reducible first | refine (C1.out _).mono ?_ | refine (C2.out _).mono ?_); rintro r wb ⟨rfl, kk⟩; have X := Lib.hid (X.out.next kk); clear kk) | fail)
        go_loopw [11] (fun i wr => ∃ (k : Nat), k ≤ 7 ∧ i = .int .i64 k ∧ RowKit.Hid (M4 W wr g s a b t) ∧ RowKit.Hid (∀ j, j < k → (a j && b j && s j && t j) = false)) (fun i _ => 7 - (intOf i).toNat)
        case atStart => exact ⟨0, by omega, rfl, X, Lib.hid fun j hj => absurd hj (by omega)⟩
        case round =>
          obtain ⟨k, hk, rfl, HX, HJ⟩ := hrel
          clear X
          by_cases h7 : k < 7
          · have hl : ((k : Int) < 7) := by omega
            have KA := Lib.hid (HX.out.m.a.cell k h7)
            have KB := Lib.hid (HX.out.m.b.cell k h7)
            have KS := Lib.hid (HX.out.m.s.cell k h7)
            have KT := Lib.hid (HX.out.t.cell k h7)
            have HN := Lib.hid (show (a k && b k && s k && t k) = false → ∀ j, j < k + 1 → (a j && b j && s j && t j) = false from fun h j hj => by
              by_cases e : j = k
              · subst e; exact h
              · exact HJ.out j (by omega))
            generalize a k = x1 at KA HN
            generalize b k = x2 at KB HN
            generalize s k = x3 at KS HN
            generalize t k = x4 at KT HN
            cases x1
            · go_wp2_with (first | (with_reducible refine wpList_load_by rfl rfl KA.out rfl ?_) | (with_reducible refine wpList_load_wanted rfl rfl KB.out rfl ?_) | (with_reducible refine wpList_load_wanted rfl rfl KS.out rfl ?_) | (with_reducible refine wpList_load_wanted rfl rfl KT.out rfl ?_) | fail)
              go_round
              case rel => exact ⟨k + 1, by omega, rfl, HX, Lib.hid (HN.out (by simp))⟩
              case measure => simp [intOf]; omega
            · cases x2
              · go_wp2_with (first | (with_reducible refine wpList_load_by rfl rfl KA.out rfl ?_) | (with_reducible refine wpList_load_wanted rfl rfl KB.out rfl ?_) | (with_reducible refine wpList_load_wanted rfl rfl KS.out rfl ?_) | (with_reducible refine wpList_load_wanted rfl rfl KT.out rfl ?_) | fail)
                go_round
                case rel => exact ⟨k + 1, by omega, rfl, HX, Lib.hid (HN.out (by simp))⟩
                case measure => simp [intOf]; omega
              · cases x3
                · go_wp2_with (first | (with_reducible refine wpList_load_by rfl rfl KA.out rfl ?_) | (with_reducible refine wpList_load_wanted rfl rfl KB.out rfl ?_) | (with_reducible refine wpList_load_wanted rfl rfl KS.out rfl ?_) | (with_reducible refine wpList_load_wanted rfl rfl KT.out rfl ?_) | fail)
                  go_round
                  case rel => exact ⟨k + 1, by omega, rfl, HX, Lib.hid (HN.out (by simp))⟩
                  case measure => simp [intOf]; omega
                · cases x4
                  · go_wp2_with (first | (with_reducible refine wpList_load_by rfl rfl KA.out rfl ?_) | (with_reducible refine wpList_load_wanted rfl rfl KB.out rfl ?_) | (with_reducible refine wpList_load_wanted rfl rfl KS.out rfl ?_) | (with_reducible refine wpList_load_wanted rfl rfl KT.out rfl ?_) | fail)
                    go_round
                    case rel => exact ⟨k + 1, by omega, rfl, HX, Lib.hid (HN.out (by simp))⟩
                    case measure => simp [intOf]; omega
                  · go_wp2_with (first | (with_reducible refine wpList_load_by rfl rfl KA.out rfl ?_) | (with_reducible refine wpList_load_wanted rfl rfl KB.out rfl ?_) | (with_reducible refine wpList_load_wanted rfl rfl KS.out rfl ?_) | (with_reducible refine wpList_load_wanted rfl rfl KT.out rfl ?_) | fail)
                    go_ret
                    exact ⟨rfl, HX.out.m.below⟩
          · obtain rfl : k = 7 := by omega
            obtain ⟨i, hi, e⟩ := HM.out
            rw [HJ.out i hi] at e
            cases e
      · rw [h1] at C1
        rw [h2] at C2
        go_wp2_with (first | (with_reducible refine wpList_load_by rfl rfl X.out.m.s.load rfl ?_) | (with_reducible refine wpList_load_by rfl rfl X.out.m.a.load rfl ?_) | (with_reducible refine wpList_load_wanted rfl rfl X.out.m.b.load rfl ?_) | (with_reducible refine wpList_load_wanted rfl rfl X.out.t.load rfl ?_) | (go_at_call 35; (with_reducible first | refine (C1.out _).mono ?_ | refine (C2.out _).mono ?_); rintro r wb ⟨rfl, kk⟩; have X := Lib.hid (X.out.next kk); clear kk) | fail)
        go_ret
        exact ⟨rfl, X.out.m.below⟩
    · rw [h1] at C1
      go_wp2_with (first | (with_reducible refine wpList_load_by rfl rfl X.out.m.s.load rfl ?_) | (with_reducible refine wpList_load_by rfl rfl X.out.m.a.load rfl ?_) | (with_reducible refine wpList_load_wanted rfl rfl X.out.m.b.load rfl ?_) | (with_reducible refine wpList_load_wanted rfl rfl X.out.t.load rfl ?_) | (go_at_call 35; (with_reducible first | refine (C1.out _).mono ?_ | refine (C2.out _).mono ?_); rintro r wb ⟨rfl, kk⟩; have X := Lib.hid (X.out.next kk); clear kk) | fail)
      go_ret
      exact ⟨rfl, X.out.m.below⟩
end Go.Proofs.Ythlghmechldegaa
