/- The stable sort of segments. -/
import Derived.Test.YtkecjopojnllnaaK
namespace Go.Proofs.Ytkecjopojnllnaa
open Go.RowKit Go.Deep Go.Joins

theorem cut3 (l : List Sg) (a m : Nat) : l.take a ++ (l.drop a).take m ++ l.drop (a + m) = l := by
  rw [List.append_assoc, ← List.drop_drop, List.take_append_drop, List.take_append_drop]
theorem cut4 (l : List Sg) (a m k : Nat) : l.take a ++ (l.drop a).take m ++ (l.drop (a + m)).take k ++ l.drop (a + m + k) = l := by
  rw [List.append_assoc, ← List.drop_drop (i := k), List.take_append_drop, cut3]
theorem SortB.mono {bs lo lo' hi : Nat} {l : List Sg} (h : SortB bs l lo hi) (h1 : lo ≤ lo') : SortB bs l lo' hi := fun i j hi hij hj hd => h i j (by omega) hij hj hd
theorem SortB.all {bs : Nat} {l : List Sg} (h : SortB bs l 0 l.length) (hb : l.length ≤ bs) : Rises l :=
  kn_rises fun i j hij hj => h i j (Nat.zero_le _) hij hj (by rw [Nat.div_eq_of_lt (by omega), Nat.div_eq_of_lt (by omega)])
/-- The last block is a run already. -/
theorem sortB_last {bs a q n : Nat} {l : List Sg} (hb : 0 < bs) (ha : a = (2 * bs) * q) (h : SortB (2 * bs) l 0 a) (k : SortB bs l a n) (hn : n ≤ a + bs) : SortB (2 * bs) l 0 n := by
  intro i j _ hij hj hd
  by_cases h1 : j < a
  · exact h i j (Nat.zero_le _) hij h1 hd
  · have h2 : a ≤ i := by rw [ha]; exact block_low (by omega) hd (by rw [← ha]; omega)
    refine k i j h2 hij hj ?_
    have e : a = bs * (2 * q) := by rw [ha, Nat.mul_comm 2 bs, Nat.mul_assoc]
    rw [div_block (q := 2 * q) (by omega) (by omega), div_block (q := 2 * q) (by omega) (by omega)]
/-- What the sort has come to. -/
def Upto (w : World) (B g n cap : Nat) (l : List Sg) (w' : World) (cur : List Sg) : Prop := Keeps l cur ∧ OwnS w' B g n cap cur ∧ w.grownBy w' (some g)
theorem Upto.len {w w' : World} {B g n cap : Nat} {l cur : List Sg} (h : Upto w B g n cap l w' cur) : cur.length = n := h.2.1.1.symm

set_option maxRecDepth 100000 in
set_option maxHeartbeats 2000000 in
theorem stable_any (l : List Sg) (B g n cap : Nat) (w : World) (h : OwnS w B g n cap l) (hn : n ≤ 1152921504606846976) :
    Calls Try.prog 70 #[.slice (some ⟨g, 0, none⟩) n cap, .int .i64 n, cmpV] w fun e w' => e = .returned (.tuple #[]) ∧ (∃ Z, Rises Z ∧ Keeps l Z ∧ OwnS w' B g n cap Z) ∧ w.grownBy w' (some g) := by
  have H := Lib.hid h
  clear h
  have hn2 : n ≤ 4611686018427387904 := by omega
  go_enter Try.func70, Try.ntmps70
  go_wp2_with fail
  go_loopw [7, 8] (fun a b wr => ∃ (x q : Nat) (cur : List Sg), a = .int .i64 (x : Int) ∧ b = .int .i64 ((x : Int) + 20) ∧ x ≤ n ∧ Hid (x = 20 * q) ∧ Hid (Upto w B g n cap l wr cur) ∧ Hid (SortB 20 cur 0 x)) (fun a _ _ => n - (intOf a).toNat)
  case atStart =>
    exact ⟨0, 0, l, rfl, rfl, Nat.zero_le _, rfl, ⟨Keeps.refl _, H.out, grown_refl _ _⟩, fun i j _ _ hj _ => absurd hj (Nat.not_lt_zero _)⟩
  case round =>
    obtain ⟨x, q, cur, rfl, rfl, hx, hq, hup, hso⟩ := hrel
    obtain ⟨wo, hwo⟩ : ∃ wo, wo = wr := ⟨_, rfl⟩
    subst hwo
    have hlen := hup.out.len
    by_cases hlt : x + 20 ≤ n
    · have hcall := insertion_any (cur.take x) ((cur.drop x).take 20) (cur.drop (x + 20)) B g n cap x (x + 20) wo (by rw [cut3]; exact hup.out.2.1) hn2 (by rw [List.length_take]; omega) (by rw [List.length_take, List.length_drop]; omega)
      rw [show ((x + 20 : Nat) : Int) = (x : Int) + 20 by omega] at hcall
      have HC := Lib.hid hcall
      have HL := Lib.hid hlen
      have b1 : (x : Int) + 20 ≤ (n : Int) := by omega
      have w1 : IntKind.i64.wrap ((x : Int) + 20 + 20) = (x : Int) + 20 + 20 := IntWalk.i64_in _ (by omega)
      clear hcall hlen
      go_wp2_with (go_at_call 77; refine HC.out.mono ?_; rintro e w2 ⟨rfl, ⟨X', r1, r2, r3⟩, hg2⟩; have R1 := Lib.hid r1; have R2 := Lib.hid r2; have R3 := Lib.hid r3; have G2 := Lib.hid hg2; clear r1 r2 r3 hg2)
      go_roundw
      case rel =>
        have hl := HL.out
        refine ⟨x + 20, q + 1, cur.take x ++ X' ++ cur.drop (x + 20), by go_num, by go_num, hlt, by show _ = _; have := hq.out; omega, ⟨?_, R3.out, grown_trans hup.out.2.2 G2.out⟩, ?_⟩
        · refine hup.out.1.trans ?_
          have h0 := ((Keeps.refl (cur.take x)).append R2.out).append (Keeps.refl (cur.drop (x + 20)))
          rwa [cut3] at h0
        · have h0 := hso.out
          rw [hq.out] at h0 ⊢
          exact sortB_next (by omega) h0 (by have := hq.out; omega) (by rw [R2.out.1, List.length_take, List.length_drop]; have := hq.out; omega) R1.out
      case measure => simp [intOf]; omega
    · have hcall := insertion_any (cur.take x) (cur.drop x) [] B g n cap x n wo (by rw [List.append_nil, List.take_append_drop]; exact hup.out.2.1) hn2 (by rw [List.length_take]; omega) (by rw [List.length_drop]; omega)
      have HC := Lib.hid hcall
      have HL := Lib.hid hlen
      have b1 : ¬ (x : Int) + 20 ≤ (n : Int) := by omega
      clear hcall hlen
      go_wp2_with (go_at_call 77; refine HC.out.mono ?_; rintro e w2 ⟨rfl, ⟨X', r1, r2, r3⟩, hg2⟩; have R1 := Lib.hid r1; have R2 := Lib.hid r2; have R3 := Lib.hid r3; have G2 := Lib.hid hg2; clear r1 r2 r3 hg2)
      have hnew : Upto w B g n cap l w2 (cur.take x ++ X' ++ []) ∧ SortB 20 (cur.take x ++ X' ++ []) 0 n := by
        have hl := HL.out
        refine ⟨⟨?_, R3.out, grown_trans hup.out.2.2 G2.out⟩, ?_⟩
        · refine hup.out.1.trans ?_
          have h0 := ((Keeps.refl (cur.take x)).append R2.out).append (Keeps.refl [])
          rwa [List.append_nil (cur.take x ++ cur.drop x), List.take_append_drop] at h0
        · have h0 := hso.out
          rw [hq.out] at h0 ⊢
          exact sortB_next (by omega) h0 (by have := hq.out; omega) (by rw [R2.out.1, List.length_drop]; have := hq.out; omega) R1.out
      obtain ⟨cur1, hc1⟩ : ∃ c, c = cur.take x ++ X' ++ [] := ⟨_, rfl⟩
      rw [← hc1] at hnew
      have HNEW := Lib.hid hnew
      clear hc1 hnew HC R1 R2 R3 G2
      go_loopw [6] (fun s wr => ∃ (bs : Nat) (cu : List Sg), s = .int .i64 (bs : Int) ∧ 20 ≤ bs ∧ bs ≤ 2 * n + 20 ∧ Hid (Upto w B g n cap l wr cu) ∧ Hid (SortB bs cu 0 n)) (fun s _ => 2 * n + 20 - (intOf s).toNat)
      case atStart => exact ⟨20, cur1, rfl, Nat.le_refl _, by omega, HNEW.out.1, HNEW.out.2⟩
      case round =>
        obtain ⟨bs, cu, rfl, hb1, hb2, hup2, hso2⟩ := hrel
        obtain ⟨wp, hwp⟩ : ∃ wp, wp = wr := ⟨_, rfl⟩
        subst hwp
        by_cases hbn : bs < n
        · have c1 : (bs : Int) < (n : Int) := by omega
          have w3 : IntKind.i64.wrap (2 * (bs : Int)) = 2 * (bs : Int) := IntWalk.i64_in _ (by omega)
          have w4 : IntKind.i64.wrap ((bs : Int) * 2) = (bs : Int) * 2 := IntWalk.i64_in _ (by omega)
          clear hup hso hq
          go_wp2_with fail
          go_loopw [7, 8] (fun a b wr => ∃ (x q : Nat) (cv : List Sg), a = .int .i64 (x : Int) ∧ b = .int .i64 ((x : Int) + 2 * (bs : Int)) ∧ x ≤ n ∧ Hid (x = 2 * bs * q) ∧ Hid (Upto w B g n cap l wr cv) ∧ Hid (SortB (2 * bs) cv 0 x) ∧ Hid (SortB bs cv x n)) (fun a _ _ => n - (intOf a).toNat)
          case atStart =>
            refine ⟨0, 0, cu, rfl, by go_num, Nat.zero_le _, rfl, hup2.out, fun i j _ _ hj _ => absurd hj (Nat.not_lt_zero _), hso2.out⟩
          case round =>
            obtain ⟨x, q, cv, rfl, rfl, hx, hq, hup3, hs1, hs2⟩ := hrel
            have hlen := hup3.out.len
            have e1 : x = bs * (2 * q) := by rw [hq.out, Nat.mul_comm 2 bs, Nat.mul_assoc]
            have e2 : x + bs = bs * (2 * q + 1) := by rw [Nat.mul_succ, ← e1]
            have E1 := Lib.hid e1
            have E2 := Lib.hid e2
            have HL := Lib.hid hlen
            have w5 : IntKind.i64.wrap ((x : Int) + (bs : Int)) = (x : Int) + (bs : Int) := IntWalk.i64_in _ (by omega)
            by_cases hlt : x + 2 * bs ≤ n
            · have r1 : Rises ((cv.drop x).take bs) := by
                rw [e1]; exact sortB_run hs2.out (by omega) (Nat.le_refl _) (by omega)
              have r2 : Rises ((cv.drop (x + bs)).take bs) := by
                rw [e2]; exact sortB_run hs2.out (by omega) (Nat.le_refl _) (by omega)
              have hcall := sym_any (cv.take x) ((cv.drop x).take bs) ((cv.drop (x + bs)).take bs) (cv.drop (x + bs + bs)) B g n cap x (x + bs) (x + 2 * bs) wr (by rw [cut4]; exact hup3.out.2.1) hn2 (by rw [List.length_take]; omega) (by rw [List.length_take, List.length_drop]; omega) (by rw [List.length_take, List.length_drop]; omega) (by rw [List.length_take, List.length_drop]; omega) (by rw [List.length_take, List.length_drop]; omega) r1 r2
              rw [show ((x + bs : Nat) : Int) = (x : Int) + (bs : Int) by omega, show ((x + 2 * bs : Nat) : Int) = (x : Int) + 2 * (bs : Int) by omega] at hcall
              have HC := Lib.hid hcall
              have b1 : (x : Int) + 2 * (bs : Int) ≤ (n : Int) := by omega
              have w6 : IntKind.i64.wrap ((x : Int) + 2 * (bs : Int) + 2 * (bs : Int)) = (x : Int) + 2 * (bs : Int) + 2 * (bs : Int) := IntWalk.i64_in _ (by omega)
              clear hcall hlen r1 r2 e1 e2
              go_wp2_with (go_at_call 78; refine HC.out.mono ?_; rintro e w2 ⟨rfl, ⟨Z, r1, r2, r3⟩, hg2⟩; have R1 := Lib.hid r1; have R2 := Lib.hid r2; have R3 := Lib.hid r3; have G2 := Lib.hid hg2; clear r1 r2 r3 hg2)
              go_roundw
              case rel =>
                have hl := HL.out
                have hlZ : Z.length = 2 * bs := by rw [R2.out.1, List.length_append, List.length_take, List.length_take, List.length_drop, List.length_drop]; omega
                refine ⟨x + 2 * bs, q + 1, cv.take x ++ Z ++ cv.drop (x + bs + bs), by go_num, by go_num, hlt, by show _ = _; rw [Nat.mul_succ, ← hq.out], ⟨?_, R3.out, grown_trans hup3.out.2.2 G2.out⟩, ?_, ?_⟩
                · refine hup3.out.1.trans ?_
                  have h0 := ((Keeps.refl (cv.take x)).append R2.out).append (Keeps.refl (cv.drop (x + bs + bs)))
                  rwa [← List.append_assoc, cut4] at h0
                · have h0 := hs1.out
                  rw [hq.out] at h0 ⊢
                  exact sortB_next (by omega) h0 (by have := hq.out; omega) (by rw [hlZ]) R1.out
                · exact sortB_rest (hs2.out.mono (by omega)) (by rw [List.length_append, List.length_take, hlZ]; omega) (by rw [show x + bs + bs = x + 2 * bs by omega])
              case measure => simp [intOf]; omega
            · have b1 : ¬ (x : Int) + 2 * (bs : Int) ≤ (n : Int) := by omega
              by_cases hm : x + bs < n
              · have r1 : Rises ((cv.drop x).take bs) := by
                  rw [e1]; exact sortB_run hs2.out (by omega) (Nat.le_refl _) (by omega)
                have r2 : Rises (cv.drop (x + bs)) := by
                  have h0 := sortB_run (q := 2 * q + 1) (m := n - (x + bs)) hs2.out (by omega) (by omega) (by omega)
                  rw [← e2, List.take_of_length_le (by rw [List.length_drop]; omega)] at h0
                  exact h0
                have hcall := sym_any (cv.take x) ((cv.drop x).take bs) (cv.drop (x + bs)) [] B g n cap x (x + bs) n wr (by rw [List.append_nil, cut3]; exact hup3.out.2.1) hn2 (by rw [List.length_take]; omega) (by rw [List.length_take, List.length_drop]; omega) (by rw [List.length_drop]; omega) (by rw [List.length_take, List.length_drop]; omega) (by rw [List.length_drop]; omega) r1 r2
                rw [show ((x + bs : Nat) : Int) = (x : Int) + (bs : Int) by omega] at hcall
                have HC := Lib.hid hcall
                have b2 : (x : Int) + (bs : Int) < (n : Int) := by omega
                clear hcall hlen r1 r2 e1 e2
                go_wp2_with (go_at_call 78; refine HC.out.mono ?_; rintro e w2 ⟨rfl, ⟨Z, r1, r2, r3⟩, hg2⟩; have R1 := Lib.hid r1; have R2 := Lib.hid r2; have R3 := Lib.hid r3; have G2 := Lib.hid hg2; clear r1 r2 r3 hg2)
                go_roundw
                case rel =>
                  have hl := HL.out
                  have hlZ : Z.length = n - x := by rw [R2.out.1, List.length_append, List.length_take, List.length_drop, List.length_drop]; omega
                  refine ⟨2 * bs, cv.take x ++ Z ++ [], by go_num, by omega, by omega, ⟨?_, R3.out, grown_trans hup3.out.2.2 G2.out⟩, ?_⟩
                  · refine hup3.out.1.trans ?_
                    have h0 := ((Keeps.refl (cv.take x)).append R2.out).append (Keeps.refl [])
                    rwa [List.append_nil (cv.take x ++ _), ← List.append_assoc, cut3] at h0
                  · have h0 := hs1.out
                    rw [hq.out] at h0 ⊢
                    exact sortB_next (by omega) h0 (by have := hq.out; omega) (by rw [hlZ]; have := hq.out; omega) R1.out
                case measure => simp [intOf]; omega
              · have b2 : ¬ (x : Int) + (bs : Int) < (n : Int) := by omega
                clear hlen e1 e2
                go_wp2_with fail
                go_roundw
                case rel =>
                  exact ⟨2 * bs, cv, by go_num, by omega, by omega, hup3.out, sortB_last (by omega) hq.out hs1.out hs2.out (by omega)⟩
                case measure => simp [intOf]; omega
        · have c1 : ¬ (bs : Int) < (n : Int) := by omega
          have hl := hup2.out.len
          have hr : Rises cu := SortB.all (by rw [hl]; exact hso2.out) (by omega)
          have HR := Lib.hid hr
          clear hup hso hq hl hr
          go_wp2_with fail
          go_end0
          exact ⟨rfl, ⟨cu, HR.out, hup2.out.1, hup2.out.2.1⟩, hup2.out.2.2⟩

theorem sort_any (l : List Sg) (B g n cap : Nat) (w : World) (h : OwnS w B g n cap l) (hn : n ≤ 1152921504606846976) :
    Calls Try.prog 50 #[.slice (some ⟨g, 0, none⟩) n cap, cmpV] w fun e w' => e = .returned (.tuple #[]) ∧ (∃ Z, Rises Z ∧ Keeps l Z ∧ OwnS w' B g n cap Z) ∧ w.grownBy w' (some g) := by
  have H := Lib.hid (stable_any l B g n cap w h hn)
  clear h
  go_enter Try.func50, Try.ntmps50
  go_wp2_with (go_at_call 70; refine H.out.mono ?_; rintro e w1 ⟨rfl, h1, h2⟩)
  go_end0
  exact ⟨rfl, h1, h2⟩
end Go.Proofs.Ytkecjopojnllnaa
