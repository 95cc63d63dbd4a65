/- Agreed of the program. -/
import Derived.Test.YthlghmechldegaaD
namespace Go.Proofs.Ythlghmechldegaa
open Go.RowKit Go.Deep Go.Joins
/-- A world in which all that was there is as it was. -/
structure Near (w : World) where
  wx : World
  near : Below w.heap.size w wx
theorem wp_region_near {P : Program} {id : Nat} {Q : Exit → Act → World → Prop} {a : Act} {w : World} {l : List Oper} (hm : P.follows .mixedOrders = true) (hB : Region.lexB .any l.toArray = true)
    (h : wpQuiet P l.toArray (fun w' => ∃ p : Near w, w' = p.wx) (fun a' => ∀ w', (∃ p : Near w, w' = p.wx) → Q .normal a' w') l a) : (Code.region id l.toArray true).wp P Q a w :=
  wp_region_quiet (C := fun w' => ∃ p : Near w, w' = p.wx) hm hB ⟨⟨w.drew, (Below.refl _ _).drew⟩, rfl⟩ (by simpa using h)
theorem near_call {P : Program} {f : FuncId} {args : Array Value} {w : World} {p : Near w} {v : Value} (h : Calls P f args p.wx fun e w' => e = .returned v ∧ Below p.wx.heap.size p.wx w') :
    Calls P f args p.wx fun e w'' => e = .returned v ∧ ∃ p : Near w, w'' = p.wx :=
  h.mono fun _ _ ⟨he, hb⟩ => ⟨he, ⟨_, below_then p.near (Nat.le_refl _) hb⟩, rfl⟩
theorem near_same {P : Program} {f : FuncId} {args : Array Value} {w : World} {p : Near w} {v : Value} (h : Calls P f args p.wx fun e w' => e = .returned v ∧ p.wx = w') :
    Calls P f args p.wx fun e w'' => e = .returned v ∧ ∃ p : Near w, w'' = p.wx :=
  h.mono fun _ _ ⟨he, hb⟩ => ⟨he, p, hb.symm⟩
theorem quiet_by {P : Program} {a : Act} {C : World → Prop} {o : Oper} {K : Act → Prop} (r : Value) (hrun : ∀ w, C w → (execOp a.eval o).run P w = .ok (.value r) w) (hk : K (a.put o.dst r)) : o.quiet P a C K :=
  ⟨r, fun w hw => by unfold Oper.quietAt; rw [hrun w hw]; exact ⟨rfl, rfl⟩, hk⟩
theorem exec_load {P : Program} {ρ : Operand → Value} {o : Oper} {t : TypeId} {p : Operand} (ho : o.op = .load t p) {v r : Value} {w : World} (hrun : (Instr.loadAt t v).run P w = .ok r w) (hp : ρ p = v) : (execOp ρ o).run P w = .ok (.value r) w := by
  unfold execOp
  simp [ho, hp, hrun, Result.andThen]
theorem wpList_exec {w : World} {ops : Array Oper} {rest : List Oper} {o : Oper} {a : Act} {Q : Exit → Act → World → Prop} (hgd : Region.wanted o (yielded ops a.tmps) = true) {r : Value} (hrun : (execOp a.eval o).run Try.prog w = .ok (.value r) w)
    (h : wpList Try.prog ops Q rest (a.put o.dst r) w) : wpList Try.prog ops Q (o :: rest) a w := by
  refine wpList_step fun K hK => ?_
  rw [if_pos hgd]
  unfold Oper.wp
  rw [hrun]
  exact hK _ _ h
theorem near_sload {w : World} {b : Nat} {f : Nat → Bool} (k : SBox w b f) (w' : World) (hw : ∃ p : Near w, w' = p.wx) : (Instr.loadAt 24 (.pointer (some ⟨b, 0, none⟩))).run Try.prog w' = .ok (setV f) w' := by
  obtain ⟨p, rfl⟩ := hw
  exact (k.next p.near).load
theorem near_nload {w : World} {b : Nat} {f : Nat → Int} (k : NBox w b f) (w' : World) (hw : ∃ p : Near w, w' = p.wx) : (Instr.loadAt 54 (.pointer (some ⟨b, 0, none⟩))).run Try.prog w' = .ok (numV f) w' := by
  obtain ⟨p, rfl⟩ := hw
  exact (k.next p.near).load
theorem near_scell {w : World} {b : Nat} {f : Nat → Bool} (k : SBox w b f) (i : Nat) (hi : i < 7) (x : Bool) (hx : f i = x) (w' : World) (hw : ∃ p : Near w, w' = p.wx) : (Instr.loadAt 4 (.pointer (some ⟨b, i, none⟩))).run Try.prog w' = .ok (.bool x) w' := by
  obtain ⟨p, rfl⟩ := hw
  rw [← hx]
  exact (k.next p.near).cell i hi
/-- A set and numbers, each in a block of the function's own. -/
structure Sh (W w : World) (s : Nat → Bool) (h : Nat → Int) : Prop where
  s : SBox w W.heap.size s
  n : NBox w (W.heap.size + 1) h
  below : Below W.heap.size W w
theorem Sh.start (W : World) (s : Nat → Bool) (h : Nat → Int) : Sh W ((W.alloc (setO s)).alloc (numO h)) s h := by
  have e1 : (W.alloc (setO s)).heap.size = W.heap.size + 1 := by simp
  refine ⟨(SBox.new W s).alloc _, ?_, ((Below.refl _ _).alloc (Nat.le_refl _) _).alloc (by simp) _⟩
  have := NBox.new (W.alloc (setO s)) h; rwa [e1] at this
theorem Sh.next {W w w' : World} {s : Nat → Bool} {h : Nat → Int} (k : Sh W w s h) (j : Below w.heap.size w w') : Sh W w' s h := ⟨k.s.next j, k.n.next j, below_then k.below (Nat.le_refl _) j⟩
theorem ag_next (s : Nat → Bool) (h : Nat → Int) (k : Nat) (x y z : Bool) (r : Int) (hx : s k = x) (hy : decide (ag s h k < h k) = y) (hz : mj s (atF h (h k) 7) = z) (hr : (if (x && y && z) = true then h k else ag s h k) = r) : ag s h (k + 1) = r := by
  subst hx hy hr hz
  simp only [ag]
  rw [mj_same s (fun j => decide (h k ≤ h j)) (atF h (h k) 7) fun i hi => by simp [atF, hi]]
set_option maxRecDepth 100000 in
set_option maxHeartbeats 1000000 in
theorem agreed_any (s : Nat → Bool) (h : Nat → Int) (W : World) : Calls Try.prog 37 #[setV s, numV h] W fun e W' => e = .returned (.int .u64 (ag s h 7)) ∧ Below W.heap.size W W' := by
  go_enter Try.func37, Try.ntmps37
  go_upto_region 1 with (fail)
  have X := Lib.hid (Sh.start W s h)
  generalize (W.alloc (setO s)).alloc (numO h) = w0 at *
  go_wp2_with (first | (with_reducible refine wpList_load_by rfl rfl X.out.n.load rfl ?_) | fail)
  go_loopw [5, 9] (fun n i wr => ∃ (k : Nat), k ≤ 7 ∧ n = .int .u64 (ag s h k) ∧ i = .int .i64 k ∧ RowKit.Hid (Sh W wr s h)) (fun _ i _ => 7 - (intOf i).toNat)
  case atStart => exact ⟨0, by omega, rfl, rfl, X⟩
  case round =>
    obtain ⟨k, hk, rfl, rfl, HX⟩ := hrel
    clear X
    by_cases h7 : k < 7
    · have hl : ((k : Int) < 7) := by omega
      have hix : ∀ w : World, _ := idx_num h k h7
      have HN := Lib.hid (ag_next s h k)
      rcases Bool.eq_false_or_eq_true (s k) with hs | hs
      · by_cases hq : ag s h k < h k
        · rcases Bool.eq_false_or_eq_true (mj s (atF h (h k) 7)) with hm | hm
          · have he := Lib.hid (HN.out true true true (h k) hs (decide_eq_true hq) hm (by simp))
            have HM := Lib.hid (fun W' => hm ▸ maj_any s (atF h (h k) 7) W')
            have HL := Lib.hid (fun W' => least_any h (h k) W')
            clear hm
            have hS := Lib.hid hs
            clear HN hs
            generalize atF h (h k) 7 = a at *
            generalize ag s h k = c at *
            generalize h k = d at *
            go_upto_region 5 with (fail)
            have hne : Nonempty (Near wr) := ⟨⟨wr, Below.refl _ _⟩⟩
            refine wp_region_near (by kernel_rfl) (by kernel_rfl) ?_
            repeat (first | (go_big_quiet_want; (with_reducible refine quiet_by _ (fun w hw => exec_load (t := 4) rfl (near_scell HX.out.s k h7 true hS.out w hw) rfl) ?_); simp only [Act.put, List.setIfInBounds_toArray, List.set_cons_zero, List.set_cons_succ]; go_big_quiet_on) | (go_big_quiet_want; (with_reducible refine quiet_by _ (fun w hw => exec_load (t := 24) rfl (near_sload HX.out.s w hw) rfl) ?_); simp only [Act.put, List.setIfInBounds_toArray, List.set_cons_zero, List.set_cons_succ]; go_big_quiet_on) | (go_big_quiet_want; (with_reducible refine quiet_by _ (fun w hw => exec_load (t := 54) rfl (near_nload HX.out.n w hw) rfl) ?_); simp only [Act.put, List.setIfInBounds_toArray, List.set_cons_zero, List.set_cons_succ]; go_big_quiet_on) | go_big_quiet_step (first | (go_at_call 46; exact near_call (HL.out _)) | (go_at_call 35; exact near_call (HM.out _)) | fail))
            refine wpQuiet_nil ?_
            rintro _ ⟨pn, rfl⟩
            have HX2 := Lib.hid (HX.out.next pn.near)
            clear HX hne
            generalize pn.wx = w1 at *
            go_wp2
            go_round
            case rel => exact ⟨k + 1, by omega, by rw [he.out], rfl, HX2⟩
            case measure => simp [intOf]; omega
          · have he := Lib.hid (HN.out true true false (ag s h k) hs (decide_eq_true hq) hm (by simp))
            have HM := Lib.hid (fun W' => hm ▸ maj_any s (atF h (h k) 7) W')
            have HL := Lib.hid (fun W' => least_any h (h k) W')
            clear hm
            have hS := Lib.hid hs
            clear HN hs
            generalize atF h (h k) 7 = a at *
            generalize ag s h k = c at *
            generalize h k = d at *
            go_upto_region 5 with (fail)
            have hne : Nonempty (Near wr) := ⟨⟨wr, Below.refl _ _⟩⟩
            refine wp_region_near (by kernel_rfl) (by kernel_rfl) ?_
            repeat (first | (go_big_quiet_want; (with_reducible refine quiet_by _ (fun w hw => exec_load (t := 4) rfl (near_scell HX.out.s k h7 true hS.out w hw) rfl) ?_); simp only [Act.put, List.setIfInBounds_toArray, List.set_cons_zero, List.set_cons_succ]; go_big_quiet_on) | (go_big_quiet_want; (with_reducible refine quiet_by _ (fun w hw => exec_load (t := 24) rfl (near_sload HX.out.s w hw) rfl) ?_); simp only [Act.put, List.setIfInBounds_toArray, List.set_cons_zero, List.set_cons_succ]; go_big_quiet_on) | (go_big_quiet_want; (with_reducible refine quiet_by _ (fun w hw => exec_load (t := 54) rfl (near_nload HX.out.n w hw) rfl) ?_); simp only [Act.put, List.setIfInBounds_toArray, List.set_cons_zero, List.set_cons_succ]; go_big_quiet_on) | go_big_quiet_step (first | (go_at_call 46; exact near_call (HL.out _)) | (go_at_call 35; exact near_call (HM.out _)) | fail))
            refine wpQuiet_nil ?_
            rintro _ ⟨pn, rfl⟩
            have HX2 := Lib.hid (HX.out.next pn.near)
            clear HX hne
            generalize pn.wx = w1 at *
            go_wp2
            go_round
            case rel => exact ⟨k + 1, by omega, by rw [he.out], rfl, HX2⟩
            case measure => simp [intOf]; omega
        · have he := Lib.hid (HN.out true false _ (ag s h k) hs (decide_eq_false hq) rfl (by simp))
          have hS := Lib.hid hs
          clear HN hs
          generalize ag s h k = c at *
          generalize h k = d at *
          go_upto_region 5 with (fail)
          have hne : Nonempty (Near wr) := ⟨⟨wr, Below.refl _ _⟩⟩
          refine wp_region_near (by kernel_rfl) (by kernel_rfl) ?_
          repeat (first | (go_big_quiet_want; (with_reducible refine quiet_by _ (fun w hw => exec_load (t := 4) rfl (near_scell HX.out.s k h7 true hS.out w hw) rfl) ?_); simp only [Act.put, List.setIfInBounds_toArray, List.set_cons_zero, List.set_cons_succ]; go_big_quiet_on) | go_big_quiet_step (first | fail))
          refine wpQuiet_nil ?_
          rintro _ ⟨pn, rfl⟩
          have HX2 := Lib.hid (HX.out.next pn.near)
          clear HX hne
          generalize pn.wx = w1 at *
          go_wp2
          go_round
          case rel => exact ⟨k + 1, by omega, by rw [he.out], rfl, HX2⟩
          case measure => simp [intOf]; omega
      · have he := Lib.hid (HN.out false _ _ (ag s h k) hs rfl rfl (by simp))
        have hS := Lib.hid hs
        clear HN hs
        generalize ag s h k = c at *
        generalize h k = d at *
        go_upto_region 5 with (fail)
        have hne : Nonempty (Near wr) := ⟨⟨wr, Below.refl _ _⟩⟩
        refine wp_region_near (by kernel_rfl) (by kernel_rfl) ?_
        repeat (first | (go_big_quiet_want; (with_reducible refine quiet_by _ (fun w hw => exec_load (t := 4) rfl (near_scell HX.out.s k h7 false hS.out w hw) rfl) ?_); simp only [Act.put, List.setIfInBounds_toArray, List.set_cons_zero, List.set_cons_succ]; go_big_quiet_on) | go_big_quiet_step (first | fail))
        refine wpQuiet_nil ?_
        rintro _ ⟨pn, rfl⟩
        have HX2 := Lib.hid (HX.out.next pn.near)
        clear HX hne
        generalize pn.wx = w1 at *
        go_wp2
        go_round
        case rel => exact ⟨k + 1, by omega, by rw [he.out], rfl, HX2⟩
        case measure => simp [intOf]; omega
    · obtain rfl : k = 7 := by omega
      go_wp2
      go_ret
      exact ⟨rfl, HX.out.below⟩
end Go.Proofs.Ythlghmechldegaa
