/- Agreed of the reference. -/
import Derived.Test.YthlghmechldegaaE
namespace Go.Proofs.Ythlghmechldegaa
open Go.RowKit Go.Deep Go.Joins
theorem still_load {P : Program} {ops : Array Oper} {w : World} {Q : Act → Prop} {rest : List Oper} {o : Oper} {a : Act} (hgd : o.guard = none) {t : TypeId} {p : Operand} (ho : o.op = .load t p) {v r : Value} (hrun : (Instr.loadAt t v).run P w = .ok r w) (hp : a.eval p = v) (h : wpStill P ops w Q rest (a.put o.dst r)) : wpStill P ops w Q (o :: rest) a := by
  refine wpStill_step fun K hK => ?_
  simp only [Region.wanted, hgd, if_true]
  unfold Oper.still
  rw [exec_load ho hrun hp]
  exact ⟨rfl, hK _ h⟩
/-- Beside them one more set of the function's own. -/
structure Sw (W w : World) (g : Nat) (s : Nat → Bool) (h : Nat → Int) (f : Nat → Bool) : Prop where
  sh : Sh W w s h
  a : SBox w g f
  far : W.heap.size + 1 < g
theorem Sw.start {W w : World} {s : Nat → Bool} {h : Nat → Int} (k : Sh W w s h) (f : Nat → Bool) : Sw W (w.alloc (setO f)) w.heap.size s h f :=
  ⟨k.next ((Below.refl _ _).alloc (Nat.le_refl _) _), SBox.new w f, k.n.lt⟩
theorem Sw.put {W w : World} {g : Nat} {s : Nat → Bool} {h : Nat → Int} {f : Nat → Bool} (k : Sw W w g s h f) (f' : Nat → Bool) : Sw W (w.setRow g (setC f')) g s h f' :=
  ⟨⟨k.sh.s.over (by have := k.far; omega) _, k.sh.n.over (by have := k.far; omega) _, below_setRow k.sh.below (by have := k.far; omega) _⟩, k.a.mine f', k.far⟩
theorem Sw.drew {W w : World} {g : Nat} {s : Nat → Bool} {h : Nat → Int} {f : Nat → Bool} (k : Sw W w g s h f) (n : Nat) : Sw W { w with drawn := n } g s h f :=
  ⟨⟨k.sh.s, k.sh.n, ⟨k.sh.below.os, k.sh.below.tape, k.sh.below.output, k.sh.below.size, k.sh.below.block⟩⟩, k.a, k.far⟩
set_option maxRecDepth 100000 in
set_option maxHeartbeats 2000000 in
theorem ragreed_any (s : Nat → Bool) (h : Nat → Int) (W : World) : Calls Try.prog 38 #[setV s, numV h] W fun e W' => e = .returned (.int .u64 (ag s h 7)) ∧ Below W.heap.size W W' := by
  go_enter Try.func38, Try.ntmps38
  go_upto_region 1 with (fail)
  have X := Lib.hid (Sh.start W s h)
  generalize (W.alloc (setO s)).alloc (numO h) = w0 at *
  go_wp2
  go_loopw [5, 6] (fun n i wr => ∃ (k : Nat), k ≤ 7 ∧ n = .int .u64 (ag s h k) ∧ i = .int .i64 k ∧ RowKit.Hid (Sh W wr s h)) (fun _ i _ => 7 - (intOf i).toNat)
  case atStart => exact ⟨0, by omega, rfl, rfl, X⟩
  case round =>
    obtain ⟨k, hk, rfl, rfl, HX⟩ := hrel
    clear X
    by_cases h7 : k < 7
    · have hl : ((k : Int) < 7) := by omega
      obtain ⟨wo, hwo⟩ : ∃ wo, wo = wr := ⟨_, rfl⟩
      subst hwo
      go_upto_region 6 with (fail)
      have HY := Lib.hid (show Sw W (wo.alloc (Obj.cells noC 24)) wo.heap.size s h (atF h (h k) 0) from by rw [atF_zero]; exact Sw.start HX.out noF)
      clear HX
      generalize wo.heap.size = g at *
      generalize wo.alloc (Obj.cells noC 24) = w1 at *
      go_wp2
      go_loopw [8] (fun i wr => ∃ (j : Nat), j ≤ 7 ∧ i = .int .i64 j ∧ RowKit.Hid (Sw W wr g s h (atF h (h k) j))) (fun i _ => 7 - (intOf i).toNat)
      case atStart => exact ⟨0, by omega, rfl, HY⟩
      case round =>
        obtain ⟨j, hj, rfl, HZ⟩ := hrel
        clear HY
        by_cases h8 : j < 7
        · have hl2 : ((j : Int) < 7) := by omega
          go_upto_region 9 with (fail)
          refine wp_region_still_tail 9 (by kernel_rfl) (by kernel_rfl) ?_
          simp only [List.take_succ_cons, List.take_zero, List.drop_succ_cons, List.drop_zero]
          have HZ := Lib.hid (HZ.out.drew (wr.drawn + 1))
          generalize ({ wr with drawn := wr.drawn + 1 } : World) = w3 at *
          have hJ := Lib.hid (HZ.out.sh.n.cell j h8)
          have hK := Lib.hid (HZ.out.sh.n.cell k h7)
          have HS := Lib.hid (HZ.out.a.put j h8 (decide (h k ≤ h j)))
          rw [atF_next] at HS
          have HZ2 := Lib.hid (HZ.out.put (atF h (h k) (j + 1)))
          repeat (first | (with_reducible refine still_load rfl rfl hJ.out rfl ?_) | (with_reducible refine still_load rfl rfl hK.out rfl ?_) | still_step)
          refine wpStill_nil ?_
          go_wp2_with (first | (with_reducible refine wpList_store_by rfl rfl HS.out rfl rfl ?_) | fail)
          go_round
          case rel => exact ⟨j + 1, by omega, rfl, HZ2⟩
          case measure => simp [intOf]; omega
        · obtain rfl : j = 7 := by omega
          obtain ⟨w4, hw4⟩ : ∃ w4, w4 = wr := ⟨_, rfl⟩
          subst hw4
          have HY := HZ
          clear HZ
          have HN := Lib.hid (ag_next s h k)
          rcases Bool.eq_false_or_eq_true (s k) with hs | hs
          · by_cases hq : ag s h k < h k
            · rcases Bool.eq_false_or_eq_true (mj s (atF h (h k) 7)) with hm | hm
              · have he := Lib.hid (HN.out true true true (h k) hs (decide_eq_true hq) hm (by simp))
                have HM := Lib.hid (fun W' => hm ▸ rmaj_any s (atF h (h k) 7) W')
                clear hm
                have hS := Lib.hid (hs ▸ HY.out.sh.s.cell k h7)
                clear HN hs
                have hH := Lib.hid (HY.out.sh.n.cell k h7)
                generalize atF h (h k) 7 = a at *
                generalize ag s h k = c at *
                generalize hd : h k = d at *
                go_wp2_with (first | (with_reducible refine wpList_load_by rfl rfl hS.out rfl ?_) | (with_reducible refine wpList_load_wanted rfl rfl hH.out rfl ?_) | (with_reducible refine wpList_load_wanted rfl rfl HY.out.sh.s.load rfl ?_) | (with_reducible refine wpList_load_wanted rfl rfl HY.out.a.load rfl ?_) | (go_at_call 36; (with_reducible refine (HM.out _).mono ?_); rintro e wb ⟨rfl, kk⟩; have HZ := Lib.hid (HY.out.sh.next kk); have hH := Lib.hid (hd ▸ (NBox.next HY.out.sh.n kk).cell k h7); clear kk) | (with_reducible refine wpList_load_by rfl rfl hH.out rfl ?_) | fail)
                go_round
                case rel => exact ⟨k + 1, by omega, by rw [he.out], rfl, HZ⟩
                case measure => simp [intOf]; omega
              · have he := Lib.hid (HN.out true true false (ag s h k) hs (decide_eq_true hq) hm (by simp))
                have HM := Lib.hid (fun W' => hm ▸ rmaj_any s (atF h (h k) 7) W')
                clear hm
                have hS := Lib.hid (hs ▸ HY.out.sh.s.cell k h7)
                clear HN hs
                have hH := Lib.hid (HY.out.sh.n.cell k h7)
                generalize atF h (h k) 7 = a at *
                generalize ag s h k = c at *
                generalize hd : h k = d at *
                go_wp2_with (first | (with_reducible refine wpList_load_by rfl rfl hS.out rfl ?_) | (with_reducible refine wpList_load_wanted rfl rfl hH.out rfl ?_) | (with_reducible refine wpList_load_wanted rfl rfl HY.out.sh.s.load rfl ?_) | (with_reducible refine wpList_load_wanted rfl rfl HY.out.a.load rfl ?_) | (go_at_call 36; (with_reducible refine (HM.out _).mono ?_); rintro e wb ⟨rfl, kk⟩; have HZ := Lib.hid (HY.out.sh.next kk); have hH := Lib.hid (hd ▸ (NBox.next HY.out.sh.n kk).cell k h7); clear kk) | fail)
                go_round
                case rel => exact ⟨k + 1, by omega, by rw [he.out], rfl, HZ⟩
                case measure => simp [intOf]; omega
            · have he := Lib.hid (HN.out true false _ (ag s h k) hs (decide_eq_false hq) rfl (by simp))
              have hS := Lib.hid (hs ▸ HY.out.sh.s.cell k h7)
              clear HN hs
              have hH := Lib.hid (HY.out.sh.n.cell k h7)
              generalize ag s h k = c at *
              generalize hd : h k = d at *
              go_wp2_with (first | (with_reducible refine wpList_load_by rfl rfl hS.out rfl ?_) | (with_reducible refine wpList_load_wanted rfl rfl hH.out rfl ?_) | fail)
              go_round
              case rel => exact ⟨k + 1, by omega, by rw [he.out], rfl, Lib.hid HY.out.sh⟩
              case measure => simp [intOf]; omega
          · have he := Lib.hid (HN.out false _ _ (ag s h k) hs rfl rfl (by simp))
            have hS := Lib.hid (hs ▸ HY.out.sh.s.cell k h7)
            clear HN hs
            have hH := Lib.hid (HY.out.sh.n.cell k h7)
            generalize ag s h k = c at *
            generalize hd : h k = d at *
            go_wp2_with (first | (with_reducible refine wpList_load_by rfl rfl hS.out rfl ?_) | fail)
            go_round
            case rel => exact ⟨k + 1, by omega, by rw [he.out], rfl, Lib.hid HY.out.sh⟩
            case measure => simp [intOf]; omega
    · obtain rfl : k = 7 := by omega
      go_wp2
      go_ret
      exact ⟨rfl, HX.out.below⟩
end Go.Proofs.Ythlghmechldegaa
