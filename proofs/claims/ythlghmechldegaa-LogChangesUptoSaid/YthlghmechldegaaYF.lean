/- A part of a log's list, the program's. -/
import Derived.Test.YthlghmechldegaaYE
namespace Go.Proofs.Ythlghmechldegaa
open Go.RowKit Go.Deep Go.Joins
set_option maxRecDepth 100000
/-- The entries from a place on. -/
def slV (l : Lg) (L : List En) (i most : Int) : List En := if (atV l L i).2 = true ∧ 1 ≤ most then (L.drop (i - l.base - 1).toNat).take most.toNat else []
/-- A result that reads as this list. -/
def Told (W : World) (M : List En) (r : Ending) (W' : World) : Prop := ∃ q c, r = .returned (.slice q M.length c) ∧ EAt W' (.slice q M.length c) M ∧ Below W.heap.size W W'
theorem told_nil {W w : World} (h : Below W.heap.size W w) : Told W [] (.returned (.slice none 0 0)) w := ⟨none, 0, rfl, ⟨rfl, .inl ⟨rfl, rfl⟩⟩, h⟩
/-- A part of what is read is read. -/
theorem EAt.part {w : World} {g off c : Nat} {L : List En} (h : EAt w (.slice (some ⟨g, off, none⟩) L.length c) L) (d n : Nat) (hd : d + n ≤ L.length) : EAt w (.slice (some ⟨g, off + d * 13, none⟩) n (c - d)) ((L.drop d).take n) := by
  have hln : ((L.drop d).take n).length = n := by simp; omega
  obtain ⟨h1, h2⟩ := h.cap
  refine ⟨eC_length _, .inr ⟨⟨g, off + d * 13, none⟩, c - d, by rw [hln], by rw [hln]; omega, by omega, fun j u hu => ?_⟩⟩
  have hj : j < n * 13 := by
    have := (List.getElem?_eq_some_iff.1 hu).1
    rwa [eC_length, hln] at this
  have hk : j / 13 < n := by omega
  have h13 : j % 13 < 13 := Nat.mod_lt _ (by omega)
  have e1 : j = 13 * (j / 13) + j % 13 := by omega
  rw [e1, eC_get _ (j / 13) (by rw [hln]; exact hk) (j % 13) h13] at hu
  have e2 : ((L.drop d).take n)[j / 13]'(by rw [hln]; exact hk) = L[d + j / 13]'(by omega) := by simp
  rw [e2] at hu
  obtain ⟨g2, off2, hq, hc⟩ := ent_at h (by omega)
  simp only [Option.some.injEq, Addr.mk.injEq] at hq
  obtain ⟨rfl, rfl, _⟩ := hq
  have := hc (d + j / 13) (by omega) w (Below.refl _ _) (j % 13) u hu
  rw [add_lit]
  rw [show off + d * 13 + j = off + (d + j / 13) * 13 + j % 13 from by omega]
  exact this
set_option maxHeartbeats 4000000 in
theorem slice_any (l : Lg) (L : List En) (i most : Int) (W : World) (hl : EAt W l.lv L) (h0 : 0 ≤ l.base) (h1 : l.base ≤ 1152921504606846976) (hi0 : 0 ≤ i) (hi1 : i < 18446744073709551616) (hlen : L.length ≤ 1152921504606846976) (hm : most ≤ 600) (hm0 : -9223372036854775808 ≤ most) : Calls Try.prog 22 #[lgV l, .int .u64 i, .int .i64 most] W (Told W (slV l L i most)) := by
  have CA := Lib.hid (fun w (hw : Below W.heap.size W w) => at_any l L i w (hl.below hw) h0 h1 hi0 hi1 hlen)
  obtain ⟨q, c, hq⟩ := hl.is
  obtain ⟨base, bt, s, lv⟩ := l
  dsimp only at hl hq h0 h1
  subst hq
  have HL := Lib.hid hl
  obtain ⟨hc1, hc2⟩ := hl.cap
  unfold maxLen at hc2
  clear hl
  unfold slV
  dsimp only
  have HO := Lib.hid (show (atV ⟨base, bt, s, .slice q L.length c⟩ L i).2 = true → base < i ∧ i - base ≤ L.length from fun h => by
    unfold atV at h
    split at h
    · rename_i hh; exact hh
    · cases h)
  generalize (atV ⟨base, bt, s, .slice q L.length c⟩ L i).1 = e at *
  rcases Bool.eq_false_or_eq_true (atV ⟨base, bt, s, .slice q L.length c⟩ L i).2 with hb | hb
  · rw [hb] at CA
    have hr := HO.out hb
    obtain ⟨hr1, hr2⟩ := hr
    clear HO
    by_cases hmo : 1 ≤ most
    · rw [if_pos ⟨hb, hmo⟩]
      clear hb
      have q3 : decide (most < 1) = false := decide_eq_false (by omega)
      obtain ⟨d, hd⟩ := Int.eq_ofNat_of_zero_le (show 0 ≤ i - base - 1 by omega)
      have hdt : (i - base - 1).toNat = d := by omega
      rw [hdt]
      have hdL : d < L.length := by omega
      obtain ⟨g, off, hqq, _⟩ := ent_at HL.out (by omega)
      subst hqq
      obtain ⟨m, hmm⟩ := Int.eq_ofNat_of_zero_le (show 0 ≤ most by omega)
      subst hmm
      rw [Int.toNat_natCast]
      go_enter Try.func22, Try.ntmps22
      go_upto_region 1 with (fail)
      have X := Lib.hid (Lb.start W ⟨base, bt, s, .slice (some ⟨g, off, none⟩) L.length c⟩)
      generalize W.alloc (lgO ⟨base, bt, s, .slice (some ⟨g, off, none⟩) L.length c⟩) = w0 at *
      have CA := Lib.hid (CA.out w0 X.out.below)
      go_upto_region 2 with (first | (with_reducible refine wpList_load_by rfl rfl X.out.box.load rfl ?_) | (go_at_call 13; (with_reducible refine CA.out.mono ?_); rintro r wb ⟨rfl, kk⟩; have X := Lib.hid (X.out.next kk); clear kk) | (with_reducible refine wpList_store_by rfl rfl (ent_new _ _) rfl rfl ?_) | fail)
      have X := Lib.hid (X.out.next (below1 wb (enO e)))
      generalize wb.heap.size = z at *
      generalize wb.alloc (enO e) = w5 at *
      clear CA hdt
      go_upto_region 5 with (first | (with_reducible refine wpList_load_by rfl rfl X.out.box.base rfl ?_) | (with_reducible refine wpList_load_by rfl rfl X.out.box.list rfl ?_) | fail)
      obtain ⟨n, hn⟩ : ∃ n, min m (L.length - d) = n := ⟨_, rfl⟩
      have hmn : min (m : Int) ((L.length - d : Nat) : Int) = (n : Int) := by omega
      have hnl : ((L.drop d).take m).length = n := by simp; omega
      have hn6 : n ≤ 600 := by omega
      have hnd : n ≤ L.length - d := by omega
      have HP := Lib.hid (fun w (hw : Below W.heap.size W w) => (show EAt w (.slice (some ⟨g, off + d * 13, none⟩) n (c - d)) ((L.drop d).take m) from by
        have h := EAt.part (HL.out.below hw) d n (by omega)
        rwa [show (L.drop d).take n = (L.drop d).take m from by
          rw [← hn, List.take_eq_take_iff]
          simp] at h))
      have CC := Lib.hid (fun w (hw : Below W.heap.size W w) => (show Calls Try.prog 42 #[.slice (some ⟨g, off + d * 13, none⟩) n (c - d)] w (fun r W' => ∃ q e, r = .returned (.slice q n e) ∧ OwnE W' w.heap.size (.slice q n e) ((L.drop d).take m) ∧ Below w.heap.size w W') from by
        have h := clone_any (some ⟨g, off + d * 13, none⟩) (c - d) ((L.drop d).take m) w (by rw [hnl]; exact HP.out w hw) (by rw [hnl]; omega)
        rwa [hnl] at h))
      have CC := Lib.hid (CC.out w5 X.out.below)
      have hcn : n ≤ c - d := by omega
      have HNL := Lib.hid hnl
      clear hnl hn HP
      go_wp2_with (first | (go_at_call 42; (with_reducible refine CC.out.mono ?_); rintro r wc ⟨q2, c2, rfl, ho, kk⟩; have HO := Lib.hid ho; have HB := Lib.hid (below_then X.out.below (Nat.le_refl _) kk); clear ho kk) | fail)
      go_ret
      exact ⟨q2, c2, by rw [HNL.out]; rfl, by rw [HNL.out]; exact HO.out.at, HB.out⟩
    · rw [if_neg (fun h => hmo h.2)]
      clear hb
      have q3 : decide (most < 1) = true := decide_eq_true (by omega)
      go_enter Try.func22, Try.ntmps22
      go_upto_region 1 with (fail)
      have X := Lib.hid (Lb.start W ⟨base, bt, s, .slice q L.length c⟩)
      generalize W.alloc (lgO ⟨base, bt, s, .slice q L.length c⟩) = w0 at *
      have CA := Lib.hid (CA.out w0 X.out.below)
      go_upto_region 2 with (first | (with_reducible refine wpList_load_by rfl rfl X.out.box.load rfl ?_) | (go_at_call 13; (with_reducible refine CA.out.mono ?_); rintro r wb ⟨rfl, kk⟩; have X := Lib.hid (X.out.next kk); clear kk) | (with_reducible refine wpList_store_by rfl rfl (ent_new _ _) rfl rfl ?_) | fail)
      have X := Lib.hid (X.out.next (below1 wb (enO e)))
      generalize wb.heap.size = z at *
      generalize wb.alloc (enO e) = w5 at *
      go_wp2
      go_ret
      exact told_nil X.out.below
  · rw [hb] at CA
    rw [if_neg (fun h => by rw [hb] at h; exact absurd h.1 (by simp))]
    clear hb HO
    go_enter Try.func22, Try.ntmps22
    go_upto_region 1 with (fail)
    have X := Lib.hid (Lb.start W ⟨base, bt, s, .slice q L.length c⟩)
    generalize W.alloc (lgO ⟨base, bt, s, .slice q L.length c⟩) = w0 at *
    have CA := Lib.hid (CA.out w0 X.out.below)
    go_upto_region 2 with (first | (with_reducible refine wpList_load_by rfl rfl X.out.box.load rfl ?_) | (go_at_call 13; (with_reducible refine CA.out.mono ?_); rintro r wb ⟨rfl, kk⟩; have X := Lib.hid (X.out.next kk); clear kk) | (with_reducible refine wpList_store_by rfl rfl (ent_new _ _) rfl rfl ?_) | fail)
    have X := Lib.hid (X.out.next (below1 wb (enO e)))
    generalize wb.heap.size = z at *
    generalize wb.alloc (enO e) = w5 at *
    go_wp2
    go_ret
    exact told_nil X.out.below
end Go.Proofs.Ythlghmechldegaa
