/- LogAgreed's walk: what is agreed on a majority has, and a majority has nothing greater. -/
import Derived.Test.YthlghmechldegaaP
import Derived.Test.YthlghmechldegaaDX
namespace Go.Proofs.Ythlghmechldegaa
open Go.RowKit Go.Deep Go.Joins
set_option maxRecDepth 100000
/-- Who of the first k has more. -/
def abF (h : Nat → Int) (n : Int) (k : Nat) : Nat → Bool := fun j => decide (j < k) && decide (n < h j)
theorem abF_zero (h : Nat → Int) (n : Int) : abF h n 0 = noF := by funext j; simp [abF, noF]
theorem abF_next (h : Nat → Int) (n : Int) (k : Nat) : upd (abF h n k) k (decide (n < h k)) = abF h n (k + 1) := by
  funext j
  unfold upd abF
  by_cases e : j = k
  · subst e; simp
  · rw [if_neg e]
    congr 1
    exact decide_eq_decide.2 ⟨fun h => by omega, fun h => by omega⟩
/-- Beside a set and numbers two more sets of the function's own. -/
structure S2 (W w : World) (g : Nat) (s : Nat → Bool) (h : Nat → Int) (a b : Nat → Bool) : Prop where
  sh : Sh W w s h
  a : SBox w g a
  b : SBox w (g + 1) b
  far : W.heap.size + 1 < g
theorem S2.start {W w : World} {s : Nat → Bool} {h : Nat → Int} (k : Sh W w s h) (a b : Nat → Bool) : S2 W ((w.alloc (setO a)).alloc (setO b)) w.heap.size s h a b := by
  have e1 : (w.alloc (setO a)).heap.size = w.heap.size + 1 := by simp
  refine ⟨(k.next (below1 _ _)).next (below1 _ _), (SBox.new w a).alloc _, ?_, k.n.lt⟩
  have := SBox.new (w.alloc (setO a)) b; rwa [e1] at this
theorem S2.next {W w w' : World} {g : Nat} {s : Nat → Bool} {h : Nat → Int} {a b : Nat → Bool} (k : S2 W w g s h a b) (j : Below w.heap.size w w') : S2 W w' g s h a b := ⟨k.sh.next j, k.a.next j, k.b.next j, k.far⟩
theorem S2.putA {W w : World} {g : Nat} {s : Nat → Bool} {h : Nat → Int} {a b : Nat → Bool} (k : S2 W w g s h a b) (f : Nat → Bool) : S2 W (w.setRow g (setC f)) g s h f b := by
  have := k.far
  exact ⟨⟨k.sh.s.over (by omega) _, k.sh.n.over (by omega) _, below_setRow k.sh.below (by omega) _⟩, k.a.mine f, k.b.over (by omega) _, k.far⟩
theorem S2.putB {W w : World} {g : Nat} {s : Nat → Bool} {h : Nat → Int} {a b : Nat → Bool} (k : S2 W w g s h a b) (f : Nat → Bool) : S2 W (w.setRow (g + 1) (setC f)) g s h a f := by
  have := k.far
  exact ⟨⟨k.sh.s.over (by omega) _, k.sh.n.over (by omega) _, below_setRow k.sh.below (by omega) _⟩, k.a.over (by omega) _, k.b.mine f, k.far⟩
theorem S2.drew {W w : World} {g : Nat} {s : Nat → Bool} {h : Nat → Int} {a b : Nat → Bool} (k : S2 W w g s h a b) (n : Nat) : S2 W { w with drawn := n } g s h a b :=
  ⟨⟨k.sh.s, k.sh.n, ⟨k.sh.below.os, k.sh.below.tape, k.sh.below.output, k.sh.below.size, k.sh.below.block⟩⟩, k.a, k.b, k.far⟩
theorem agreed_fact (s : Nat → Bool) (h : Nat → Int) (c : Int) (hc : ag s h 7 = c) : (decide (c = 0) || mj s (atF h c 7)) = true ∧ mj s (abF h c 7) = false := by
  subst hc
  have h1 := ag_agreed s h
  rw [mj_same s (fun j => decide (ag s h 7 ≤ h j)) (atF h (ag s h 7) 7) fun i hi => by simp [atF, hi], mj_same s (fun j => decide (ag s h 7 < h j)) (abF h (ag s h 7) 7) fun i hi => by simp [abF, hi]] at h1
  simp only [Bool.and_eq_true, Bool.not_eq_true'] at h1
  exact h1
set_option maxHeartbeats 4000000 in
theorem agreed_law (s : Nat → Bool) (h : Nat → Int) (W : World) : Calls Try.prog 7 #[setV s, numV h] W fun r W' => r = .returned (.bool true) ∧ Below W.heap.size W W' := by
  have C0 := Lib.hid (fun W' => awake_any W')
  have CA := Lib.hid (fun W' => agreed_any s h W')
  have HF := Lib.hid (agreed_fact s h _ rfl)
  generalize ag s h 7 = c at *
  go_enter Try.func7, Try.ntmps7
  go_upto_region 1 with (fail)
  have X := Lib.hid (Sh.start W s h)
  generalize (W.alloc (setO s)).alloc (numO h) = w0 at *
  go_upto_region 4 with (first | (go_at_call 8; (with_reducible refine (C0.out _).mono ?_); rintro r wb ⟨rfl, kk⟩; have X := Lib.hid (X.out.next kk); clear kk) | (with_reducible refine wpList_load_by rfl rfl X.out.s.load rfl ?_) | (with_reducible refine wpList_load_by rfl rfl X.out.n.load rfl ?_) | (go_at_call 37; (with_reducible refine (CA.out _).mono ?_); rintro r wc ⟨rfl, kk⟩; have X := Lib.hid (X.out.next kk); clear kk) | fail)
  go_upto_region 5 with (fail)
  have Y := Lib.hid (show S2 W ((wc.alloc (Obj.cells noC 24)).alloc (Obj.cells noC 24)) wc.heap.size s h (atF h c 0) (abF h c 0) from by rw [atF_zero, abF_zero]; exact S2.start X.out noF noF)
  clear X
  generalize wc.heap.size = g at *
  generalize (wc.alloc (Obj.cells noC 24)).alloc (Obj.cells noC 24) = w2 at *
  go_wp2
  go_loopw [8] (fun i wr => ∃ (k : Nat), k ≤ 7 ∧ i = .int .i64 k ∧ RowKit.Hid (S2 W wr g s h (atF h c k) (abF h c k))) (fun i _ => 7 - (intOf i).toNat)
  case atStart => exact ⟨0, by omega, rfl, Y⟩
  case round =>
    obtain ⟨k, hk, rfl, X⟩ := hrel
    clear Y
    by_cases h7 : k < 7
    · have hl : ((k : Int) < 7) := by omega
      go_upto_region 8 with (fail)
      refine dr (fun w => NBox w (W.heap.size + 1) h) fun w3 hzz => ?_
      have X := Lib.hid (X.out.next hzz)
      clear hzz
      have HA := Lib.hid (X.out.a.put k h7 (decide (c ≤ h k)))
      rw [atF_next] at HA
      have X2 := Lib.hid (X.out.putA (atF h c (k + 1)))
      have HB := Lib.hid (X2.out.b.put k h7 (decide (c < h k)))
      rw [abF_next] at HB
      have X3 := Lib.hid (X2.out.putB (abF h c (k + 1)))
      have hS := X.out.sh.n
      refine tk 0 hS ?_
      refine tk 1 hS ?_
      refine tk 2 hS ?_
      refine tk 3 hS ?_
      refine tl 4 hS (fun w hw => NBox.cell hw k h7) ?_
      refine tk 5 hS ?_
      refine tk 6 hS ?_
      refine tk 7 hS ?_
      refine tk 8 hS ?_
      refine tl 9 hS (fun w hw => NBox.cell hw k h7) ?_
      refine tk 10 hS ?_
      refine tk 11 hS ?_
      refine tk 12 hS ?_
      refine hs 13 HA.out fun wy hw => ?_
      subst hw
      refine ⟨X2.out.sh.n, fun hS => ?_⟩
      refine tk 14 hS ?_
      refine hs 15 HB.out fun wy hw => ?_
      subst hw
      refine ⟨X3.out.sh.n, fun hS => ?_⟩
      refine wpAnyH_done (by kernel_rfl) ?_ _
      go_wp2
      go_round
      case rel => exact ⟨k + 1, by omega, rfl, X3⟩
      case measure => simp [intOf]; omega
    · obtain rfl : k = 7 := by omega
      have C1 := Lib.hid (fun W' => maj_any s (atF h c 7) W')
      have C2 := Lib.hid (fun W' => maj_any s (abF h c 7) W')
      have HF1 := HF.out.1
      rw [HF.out.2] at C2
      clear HF
      generalize atF h c 7 = a at *
      generalize abF h c 7 = b at *
      by_cases hc0 : c = 0
      · have q0 : (c == 0) = true := by rw [beq_iff_eq]; exact hc0
        clear HF1 hc0
        go_wp2_with (first | (with_reducible refine wpList_load_wanted rfl rfl X.out.sh.s.load rfl ?_) | (with_reducible refine wpList_load_wanted rfl rfl X.out.a.load rfl ?_) | (with_reducible refine wpList_load_wanted rfl rfl X.out.b.load rfl ?_) | (go_at_call 35; (with_reducible first | refine (C1.out _).mono ?_ | refine (C2.out _).mono ?_); rintro r wd ⟨rfl, kk⟩; have X := Lib.hid (X.out.next kk); clear kk) | fail)
        go_ret
        exact ⟨rfl, X.out.sh.below⟩
      · have q0 : (c == 0) = false := by rw [beq_eq_false_iff_ne]; exact hc0
        rw [decide_eq_false hc0, Bool.false_or] at HF1
        rw [HF1] at C1
        clear HF1 hc0
        go_wp2_with (first | (with_reducible refine wpList_load_wanted rfl rfl X.out.sh.s.load rfl ?_) | (with_reducible refine wpList_load_wanted rfl rfl X.out.a.load rfl ?_) | (with_reducible refine wpList_load_wanted rfl rfl X.out.b.load rfl ?_) | (go_at_call 35; (with_reducible first | refine (C1.out _).mono ?_ | refine (C2.out _).mono ?_); rintro r wd ⟨rfl, kk⟩; have X := Lib.hid (X.out.next kk); clear kk) | fail)
        go_ret
        exact ⟨rfl, X.out.sh.below⟩
end Go.Proofs.Ythlghmechldegaa
