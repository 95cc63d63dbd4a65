/- Two neighbouring ranges of the row exchanged. -/
import Derived.Test.YtkecjopojnllnaaC
namespace Go.Proofs.Ytkecjopojnllnaa
open Go.RowKit Go.Deep Go.Joins

theorem grown_trans {a b c : World} {row : Option Nat} (h : a.grownBy b row) (k : b.grownBy c row) : a.grownBy c row :=
  ⟨k.os.trans h.os, k.tape.trans h.tape, k.output.trans h.output, Nat.le_trans h.size k.size, fun j hj hne => (k.block j (Nat.lt_of_lt_of_le hj h.size) hne).trans (h.block j hj hne)⟩

set_option maxRecDepth 100000 in
set_option maxHeartbeats 1000000 in
theorem rotate_any (P U V S : List Sg) (B g n cap a M b : Nat) (c : Value) (w : World) (h : OwnS w B g n cap (P ++ U ++ V ++ S)) (hn : n ≤ 4611686018427387904) (ha : P.length = a) (hM : P.length + U.length = M) (hb : M + V.length = b) (hU : 0 < U.length) (hV : 0 < V.length) :
    Calls Try.prog 83 #[.slice (some ⟨g, 0, none⟩) n cap, .int .i64 a, .int .i64 M, .int .i64 b, c] w fun e w' => e = .returned (.tuple #[]) ∧ OwnS w' B g n cap (P ++ V ++ U ++ S) ∧ w.grownBy w' (some g) := by
  have H := Lib.hid h
  have hn1 := h.1
  simp only [List.length_append] at hn1
  clear h
  have hab : a ≤ M ∧ M ≤ b ∧ b ≤ n ∧ 0 < M - a := by omega
  obtain ⟨hab1, hab2, hab3, hab4⟩ := hab
  have w1 : IntKind.i64.wrap ((M : Int) - (a : Int)) = (M : Int) - (a : Int) := IntWalk.i64_in _ (by omega)
  have w2 : IntKind.i64.wrap ((b : Int) - (M : Int)) = (b : Int) - (M : Int) := IntWalk.i64_in _ (by omega)
  have eU : (M : Int) - (a : Int) = ((U.length : Nat) : Int) := by omega
  have eV : (b : Int) - (M : Int) = ((V.length : Nat) : Int) := by omega
  have HEU := Lib.hid eU
  have HEV := Lib.hid eV
  have HHM := Lib.hid hM
  have hVb : M + V.length ≤ n := by omega
  have hUM : U.length ≤ M := by omega
  clear eU eV hM ha hb hn1
  go_enter Try.func83, Try.ntmps83
  go_wp2_with fail
  go_loopw [10, 11] (fun i j wr => ∃ (x y : Nat) (P' U' V' S' : List Sg), i = .int .i64 x ∧ j = .int .i64 y ∧ 0 < x ∧ 0 < y ∧ x ≤ M ∧ M + y ≤ n ∧ Hid (P'.length + x = M ∧ U'.length = x ∧ V'.length = y ∧ P' ++ V' ++ U' ++ S' = P ++ V ++ U ++ S) ∧ Hid (OwnS wr B g n cap (P' ++ U' ++ V' ++ S')) ∧ Hid (w.grownBy wr (some g))) (fun i j _ => (intOf i).toNat + (intOf j).toNat)
  case atStart =>
    refine ⟨U.length, V.length, P, U, V, S, by rw [HEU.out], by rw [HEV.out], hU, hV, hUM, hVb, ⟨HHM.out, rfl, rfl, rfl⟩, H.out, ⟨rfl, rfl, rfl, Nat.le_refl _, fun _ _ _ => rfl⟩⟩
  case round =>
    obtain ⟨x, y, P', U', V', S', rfl, rfl, hx, hy, hxM, hyM, hd, how, hgr⟩ := hrel
    obtain ⟨hd1, hd2, hd3, hd4⟩ := hd.out
    have w3 : IntKind.i64.wrap ((M : Int) - (x : Int)) = (M : Int) - (x : Int) := IntWalk.i64_in _ (by omega)
    by_cases hxy : x = y
    · subst hxy
      have hcall := swap_any P' U' [] V' S' B g n cap c wr (by simpa using how.out) hn (by omega)
      rw [show ((P'.length : Int)) + U'.length + ([] : List Sg).length = (M : Int) by simp; omega, show ((P'.length : Nat) : Int) = (M : Int) - (x : Int) by omega, hd2] at hcall
      have HC := Lib.hid hcall
      clear hcall hd1 hd2 hd3 hd4
      go_wp2_with (go_at_call 87; refine HC.out.mono ?_; rintro e w2 ⟨rfl, ho2, hg2⟩)
      go_end0
      refine ⟨rfl, ?_, grown_trans hgr.out hg2⟩
      rw [← hd.out.2.2.2]
      simpa using ho2
    · have hne : ((x : Int) == (y : Int)) = false := by rw [beq_eq_false_iff_ne]; omega
      have hne2 : ((x : Int) != (y : Int)) = true := by simp; omega
      by_cases hgt : y < x
      · have hcall := swap_any P' (U'.take y) (U'.drop y) V' S' B g n cap c wr (by rw [show P' ++ U'.take y ++ U'.drop y ++ V' ++ S' = P' ++ U' ++ V' ++ S' by simp]; exact how.out) hn (by rw [List.length_take]; omega)
        have t1 : (U'.take y).length = y := by rw [List.length_take]; omega
        have t2 : (U'.drop y).length = x - y := by rw [List.length_drop]; omega
        rw [t1, t2, show ((P'.length : Int)) + (y : Int) + ((x - y : Nat) : Int) = (M : Int) by omega, show ((P'.length : Nat) : Int) = (M : Int) - (x : Int) by omega] at hcall
        have HC := Lib.hid hcall
        have w4 : IntKind.i64.wrap ((x : Int) - (y : Int)) = (x : Int) - (y : Int) := IntWalk.i64_in _ (by omega)
        have hgt2 : (y : Int) < (x : Int) := by omega
        clear hcall hd1 hd2 hd3 hd4
        go_wp2_with (go_at_call 87; refine HC.out.mono ?_; rintro e w2 ⟨rfl, ho2, hg2⟩; have HO2 := Lib.hid ho2; have HG2 := Lib.hid hg2; clear ho2 hg2)
        go_roundw
        case rel =>
          obtain ⟨hd1, hd2, hd3, hd4⟩ := hd.out
          refine ⟨x - y, y, P' ++ V', U'.drop y, U'.take y, S', by go_num, rfl, by omega, hy, by omega, hyM, ⟨by rw [List.length_append]; omega, t2, t1, ?_⟩, ?_, grown_trans hgr.out HG2.out⟩
          · rw [← hd4]; simp
          · show OwnS _ _ _ _ _ _
            exact HO2.out
        case measure => simp [intOf]; omega
      · have hcall := swap_any P' U' (V'.take (y - x)) (V'.drop (y - x)) S' B g n cap c wr (by rw [show P' ++ U' ++ V'.take (y - x) ++ V'.drop (y - x) ++ S' = P' ++ U' ++ V' ++ S' by simp]; exact how.out) hn (by rw [List.length_drop]; omega)
        have t1 : (V'.take (y - x)).length = y - x := by rw [List.length_take]; omega
        have t2 : (V'.drop (y - x)).length = x := by rw [List.length_drop]; omega
        rw [hd2, t1, show ((P'.length : Int)) + (x : Int) + ((y - x : Nat) : Int) = (M : Int) + (y : Int) - (x : Int) by omega, show ((P'.length : Nat) : Int) = (M : Int) - (x : Int) by omega] at hcall
        have HC := Lib.hid hcall
        have w4 : IntKind.i64.wrap ((y : Int) - (x : Int)) = (y : Int) - (x : Int) := IntWalk.i64_in _ (by omega)
        have w5 : IntKind.i64.wrap ((M : Int) + (y : Int)) = (M : Int) + (y : Int) := IntWalk.i64_in _ (by omega)
        have w6 : IntKind.i64.wrap ((M : Int) + (y : Int) - (x : Int)) = (M : Int) + (y : Int) - (x : Int) := IntWalk.i64_in _ (by omega)
        have hgt2 : ¬ (y : Int) < (x : Int) := by omega
        clear hcall hd1 hd2 hd3 hd4
        go_wp2_with (go_at_call 87; refine HC.out.mono ?_; rintro e w2 ⟨rfl, ho2, hg2⟩; have HO2 := Lib.hid ho2; have HG2 := Lib.hid hg2; clear ho2 hg2)
        go_roundw
        case rel =>
          obtain ⟨hd1, hd2, hd3, hd4⟩ := hd.out
          refine ⟨x, y - x, P', V'.drop (y - x), V'.take (y - x), U' ++ S', rfl, by go_num, hx, by omega, hxM, by omega, ⟨hd1, t2, t1, ?_⟩, ?_, grown_trans hgr.out HG2.out⟩
          · rw [← hd4, List.append_assoc P' (V'.take (y - x)), List.take_append_drop]; simp
          · have e : P' ++ V'.drop (y - x) ++ V'.take (y - x) ++ (U' ++ S') = P' ++ V'.drop (y - x) ++ V'.take (y - x) ++ U' ++ S' := by simp
            show OwnS _ _ _ _ _ _
            rw [e]
            exact HO2.out
        case measure => simp [intOf]; omega
end Go.Proofs.Ytkecjopojnllnaa
