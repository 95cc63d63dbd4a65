/- A machine gets what a head's fields tell: the walk. -/
import Derived.Test.YtgflnfmnjlmenaaYZP
namespace Go.Proofs.Ytgflnfmnjlmenaa
open Go.RowKit Go.Deep Go.Joins
set_option maxRecDepth 100000
set_option maxHeartbeats 4000000 in
theorem fill_any (B z g0 c0 : Nat) (m : Mc) (F : List ByteArray) (W : World) (K : MBox W z m) (ho : OwnF W B (.slice (some ⟨g0, 0, none⟩) F.length c0) F) (h73 : 73 ≤ F.length) (hl : F.length ≤ 100000) (hc0 : F.length ≤ c0) (hcm : c0 ≤ maxLen) :
    Calls Try.prog 27 #[.pointer (some ⟨z, 0, none⟩), .slice (some ⟨g0, 0, none⟩) F.length c0] W (FillR B g0 c0 z m F h73 W) := by
  have OF := Lib.hid (fun w' m' (h : Fs W w' z m') => show OwnF w' B (.slice (some ⟨g0, 0, none⟩) F.length c0) F from own_fs h K ho (by decide))
  have K0 := Lib.hid (show Fs W W z m from ⟨K, Touch.refl _ _⟩)
  have R69 := Lib.hid (reads_at (w := W) (n := 69) (fat_take (FAt.of ho) 69 (by omega) (by omega)) (by rw [List.length_take]; omega) (by omega))
  have k1 : ¬ c0 = 69 := by omega
  have k2 : (69 : Int) ≤ c0 := by omega
  have k3 : (69 : Int) ≤ F.length := by omega
  have k4 : (69 : Int) < F.length := by omega
  have k5 : (70 : Int) < F.length := by omega
  have k6 : 69 < F.length := by omega
  have k7 : 70 < F.length := by omega
  have k8 : (73 : Int) ≤ F.length := by omega
  have k9 : (71 : Int) ≤ F.length := by omega
  have k10 : (73 : Int) ≤ c0 := by omega
  have k11 : ¬ c0 = 71 := by omega
  clear K ho
  go_enter Try.func27, Try.ntmps27
  go_upto_region 1 with (first | (go_at_call 36; (with_reducible refine R69.out.mono ?_); rintro e w1 ⟨g, c, ⟨rfl, hgc, hgW, hn, hb⟩ | h69⟩; rotate_left; (exact absurd h69 (by decide)); have K1 := Lib.hid (K0.out.next hb); have NN := Lib.hid hn; have HG := Lib.hid (And.intro hgc hgW)) | fail)
  have M := Lib.hid (fun w' m' (hb : Below w1.heap.size w1 w' ∨ Fs w1 w' z m') => show MAt w' (.slice (some ⟨g, 0, none⟩) 69 c) (nums69 F) from by
    have h : OwnM w1 W.heap.size (.slice (some ⟨g, 0, none⟩) 69 c) (nums69 F) := NN.out
    rcases hb with hb | hb
    · exact OwnM.at (owns_below h hb)
    · exact OwnM.at (own_fs hb K1.out.box h (by decide)))
  have L52 := nums69_len h73
  have hgc := HG.out.1
  have q1 : ¬ c = 52 := by omega
  have q2 : (52 : Int) ≤ c := by omega
  have q3 : ¬ c = 61 := by omega
  have q4 : (61 : Int) ≤ c := by omega
  have K1' := Lib.hid (show Fs w1 w1 z m from ⟨K1.out.box, Touch.refl _ _⟩)
  have C37 := Lib.hid (toproc_any g 0 c _ w1 (mat_take (M.out w1 m (.inl (Below.refl _ _))) 52 (by unfold nums69; rw [List.length_map, List.length_take]; omega) (by omega)) L52)
  go_upto_region 2 with (first | (go_at_call 37; (with_reducible refine C37.out.mono ?_); rintro e w2 ⟨rfl, kk⟩; have K2 := Lib.hid (K1'.out.next kk); clear kk) | (with_reducible refine wpList_store_by rfl rfl (MBox.store_hart K2.out.box _) rfl rfl ?_) | fail)
  have K3 := Lib.hid (K2.out.put (m' := { m with h := hartF ((nums69 F).take 52) L52 }) rfl)
  obtain ⟨m3, hm3⟩ : ∃ x, x = ({ m with h := hartF ((nums69 F).take 52) L52 } : Mc) := ⟨_, rfl⟩
  rw [← hm3] at K3 ⊢
  have HM3 := Lib.hid hm3
  clear hm3
  generalize w2.setRow z (mcC m3) = w3 at K3 ⊢
  have len69 : (nums69 F).length = 69 := by unfold nums69; rw [List.length_map, List.length_take]; omega
  have LL := Lib.hid len69
  have C38 := Lib.hid (show Calls Try.prog 38 #[.slice (some ⟨g, 52, none⟩) 17 (c - 52)] w3 (fun e W' => e = .returned (bdV (dvF ((nums69 F).drop 52))) ∧ Below w3.heap.size w3 W') from todev_at (by have := mat_drop (M.out w3 m3 (.inr K3.out)) 52 (by rw [len69]; omega); rw [Nat.zero_add] at this; exact this) (by rw [List.length_drop, len69]) (by omega))
  clear len69
  go_upto_region 3 with (first | (go_at_call 38; (with_reducible refine C38.out.mono ?_); rintro e w4 ⟨rfl, kk⟩; have K4 := Lib.hid (K3.out.next kk); clear kk) | (with_reducible refine wpList_store_by rfl rfl (MBox.store_b K4.out.box _) rfl rfl ?_) | fail)
  have K5 := Lib.hid (K4.out.put (m' := { m3 with b := dvF ((nums69 F).drop 52) }) rfl)
  obtain ⟨m5, hm5⟩ : ∃ x, x = ({ m3 with b := dvF ((nums69 F).drop 52) } : Mc) := ⟨_, rfl⟩
  rw [← hm5] at K5 ⊢
  have HM5 := Lib.hid hm5
  clear hm5
  generalize w4.setRow z (mcC m5) = w5 at K5 ⊢
  have C39 := Lib.hid (show Calls Try.prog 39 #[.slice (some ⟨g, 61, none⟩) 8 (c - 61)] w5 (fun e W' => e = .returned (.agg (plC (plF ((nums69 F).drop 61)))) ∧ Below w5.heap.size w5 W') from toplic_at (by have := mat_drop (M.out w5 m5 (.inr K5.out)) 61 (by rw [LL.out]; omega); rw [Nat.zero_add] at this; exact this) (by rw [List.length_drop, LL.out]) (by omega))
  go_upto_region 4 with (first | (go_at_call 39; (with_reducible refine C39.out.mono ?_); rintro e w6 ⟨rfl, kk⟩; have K6 := Lib.hid (K5.out.next kk); clear kk) | (with_reducible refine wpList_store_by rfl rfl (MBox.store_pl K6.out.box _) rfl rfl ?_) | fail)
  have K7 := Lib.hid (K6.out.put (m' := { m5 with b := { m5.b with pl := plF ((nums69 F).drop 61) } }) rfl)
  obtain ⟨m7, hm7⟩ : ∃ x, x = ({ m5 with b := { m5.b with pl := plF ((nums69 F).drop 61) } } : Mc) := ⟨_, rfl⟩
  rw [← hm7] at K7 ⊢
  have HM7 := Lib.hid hm7
  clear hm7
  generalize w6.setRow z (mcC m7) = w7 at K7 ⊢
  have KW : RowKit.Hid (Fs W w7 z m7) := Lib.hid ⟨K7.out.box, K1.out.t.trans K7.out.t⟩
  have F69 := fs_cell (OF.out w7 m7 KW.out) 69 (by omega)
  go_upto_region 5 with (first | (with_reducible refine wpList_store_by rfl rfl (MBox.store_inn K7.out.box _) rfl rfl ?_) | fail)
  clear F69 KW
  have K8 := Lib.hid (K7.out.put (m' := { m7 with b := { m7.b with inn := fs F 69 } }) rfl)
  obtain ⟨m8, hm8⟩ : ∃ x, x = ({ m7 with b := { m7.b with inn := fs F 69 } } : Mc) := ⟨_, rfl⟩
  rw [← hm8] at K8 ⊢
  have HM8 := Lib.hid hm8
  clear hm8
  generalize w7.setRow z (mcC m8) = w8 at K8 ⊢
  have KW : RowKit.Hid (Fs W w8 z m8) := Lib.hid ⟨K8.out.box, K1.out.t.trans K8.out.t⟩
  have F70 := fs_cell (OF.out w8 m8 KW.out) 70 (by omega)
  go_upto_region 6 with (first | (with_reducible refine wpList_store_by rfl rfl (MBox.store_sec K8.out.box _) rfl rfl ?_) | fail)
  clear F70 KW
  have K9 := Lib.hid (K8.out.put (m' := { m8 with b := { m8.b with sec := fs F 70 } }) rfl)
  obtain ⟨m9, hm9⟩ : ∃ x, x = ({ m8 with b := { m8.b with sec := fs F 70 } } : Mc) := ⟨_, rfl⟩
  rw [← hm9] at K9 ⊢
  have HM9 := Lib.hid hm9
  clear hm9
  generalize w8.setRow z (mcC m9) = w9 at K9 ⊢
  have END : ∀ (q : Option Addr) (c10 : Nat) (w10 : World) (m10 : Mc), m10 = ({ m9 with b := m9.b.at q (F.length - 73) c10 } : Mc) → Fs w1 w10 z m10 → (∀ w', OwnF w' B (.slice (some ⟨g0, 0, none⟩) F.length c0) F → FAt w' (.slice q (F.length - 73) c10) (F.drop 73)) → RowKit.Hid (Fs w1 w10 z m10 ∧ ∃ q c, m10 = ({ m9 with b := m9.b.at q (F.length - 73) c } : Mc) ∧ (∀ w', OwnF w' B (.slice (some ⟨g0, 0, none⟩) F.length c0) F → FAt w' (.slice q (F.length - 73) c) (F.drop 73))) := fun q c10 w10 m10 h1 h2 h3 => Lib.hid ⟨h2, q, c10, h1, h3⟩
  have FO := Lib.hid (show ∀ w', OwnF w' B (.slice (some ⟨g0, 0, none⟩) F.length c0) F → FAt w' (.slice (some ⟨g0, 0 + 73, none⟩) (F.length - 73) (c0 - 73)) (F.drop 73) from fun w' h => fat_drop (FAt.of h) 73 h73)
  rw [Nat.zero_add] at FO
  have FX := Lib.hid (show ∀ w', OwnF w' B (.slice (some ⟨g0, 0, none⟩) F.length c0) F → FAt w' (.slice (some ⟨g0, 71, none⟩) 2 (c0 - 71)) ((F.drop 71).take 2) from fun w' h => fat_take (show FAt w' (.slice (some ⟨g0, 71, none⟩) (F.length - 71) (c0 - 71)) (F.drop 71) from by have := fat_drop (FAt.of h) 71 (by omega); rw [Nat.zero_add] at this; exact this) 2 (by rw [List.length_drop]; omega) (by omega))
  by_cases h73c : c0 = 73
  case' pos =>
    subst h73c
    have e73 : F.length = 73 := by omega
    have EE := Lib.hid e73
    clear e73
    go_upto_region 7 with (first | (with_reducible refine wpList_store_by rfl rfl (MBox.store_fr K9.out.box _ _ _) rfl rfl ?_) | fail)
    have X10 := END (some ⟨g0, 0, none⟩) 0 _ _ (by rw [EE.out]) (K9.out.put (m' := { m9 with b := m9.b.at (some ⟨g0, 0, none⟩) 0 0 }) rfl) (fun w' h => by rw [EE.out]; have := fat_end (w := w') (g := g0) (off := 0) (L := F) (Nat.zero_le _); rw [EE.out] at this; exact this)
    generalize w9.setRow z (mcC { m9 with b := m9.b.at (some ⟨g0, 0, none⟩) 0 0 }) = w10 at X10 ⊢
    generalize ({ m9 with b := m9.b.at (some ⟨g0, 0, none⟩) 0 0 } : Mc) = m10 at X10 ⊢
  case' neg =>
    have h73d : ¬ c0 = 73 := h73c
    clear h73c
    go_upto_region 7 with (first | (with_reducible refine wpList_store_by rfl rfl (MBox.store_fr K9.out.box _ _ _) rfl rfl ?_) | fail)
    have X10 := END (some ⟨g0, 73, none⟩) (c0 - 73) _ _ rfl (K9.out.put (m' := { m9 with b := m9.b.at (some ⟨g0, 73, none⟩) (F.length - 73) (c0 - 73) }) rfl) FO.out
    generalize w9.setRow z (mcC { m9 with b := m9.b.at (some ⟨g0, 73, none⟩) (F.length - 73) (c0 - 73) }) = w10 at X10 ⊢
    generalize ({ m9 with b := m9.b.at (some ⟨g0, 73, none⟩) (F.length - 73) (c0 - 73) } : Mc) = m10 at X10 ⊢
  all_goals
    clear END
    have KW : RowKit.Hid (Fs W w10 z m10) := Lib.hid ⟨X10.out.1.box, K1.out.t.trans X10.out.1.t⟩
    have RR := Lib.hid (reads_at (w := w10) (n := 2) (FX.out _ (OF.out w10 m10 KW.out)) (by rw [List.length_take, List.length_drop]; omega) (by omega))
    go_upto_region 8 with (first | (go_at_call 36; (with_reducible refine RR.out.mono ?_); rintro e w11 ⟨g2, c2, ⟨rfl, hgc2, hgW2, hn2, hb2⟩ | h69⟩; rotate_left; (exact absurd h69 (by decide)); have K11 := Lib.hid (X10.out.1.next hb2); have N2 := Lib.hid hn2; have B11 := Lib.hid hb2) | fail)
    clear hn2 hb2
    have P2 := Lib.hid (fun w' (hb : Below w11.heap.size w11 w') => show Cu w' g2 0 (nums2 F) from by
      obtain ⟨g', off', e, _, hc⟩ := cu_of (show MAt w' (.slice (some ⟨g2, 0, none⟩) (nums2 F).length c2) (nums2 F) from by
        have e2 : (nums2 F).length = 2 := by unfold nums2; rw [List.length_map, List.length_take, List.length_drop]; omega
        rw [e2]; exact OwnM.at (owns_below (show OwnM w11 w10.heap.size (.slice (some ⟨g2, 0, none⟩) 2 c2) (nums2 F) from N2.out) hb)) (by unfold nums2; rw [List.length_map, List.length_take, List.length_drop]; omega)
      simp only [Option.some.injEq, Addr.mk.injEq] at e
      obtain ⟨rfl, rfl, _⟩ := e
      exact hc)
    have LN : RowKit.Hid ((nums2 F).length = 2) := Lib.hid (by unfold nums2; rw [List.length_map, List.length_take, List.length_drop]; omega)
    refine dr (fun w => w.cell? ⟨g2, 0, none⟩ = some (.int .u64 (nt (nums2 F) 0)) ∧ w.cell? ⟨g2, 1, none⟩ = some (.int .u64 (nt (nums2 F) 1)) ∧ ∃ m', Fs w1 w z m') fun wz hzz => ?_
    have hS : wz.cell? ⟨g2, 0, none⟩ = some (.int .u64 (nt (nums2 F) 0)) ∧ wz.cell? ⟨g2, 1, none⟩ = some (.int .u64 (nt (nums2 F) 1)) ∧ ∃ m', Fs w1 wz z m' := ⟨P2.out wz hzz 0 (by rw [LN.out]; decide), P2.out wz hzz 1 (by rw [LN.out]; decide), _, K11.out.next hzz⟩
    have K12 := K11.out.next hzz
    have T12 := Lib.hid (And.intro (K11.out.next hzz) hzz)
    refine tk 0 hS ?_
    refine tk 1 hS ?_
    refine tk 2 hS ?_
    refine tk 3 hS ?_
    refine tl 4 hS (fun w hw => ld_u hw.1) ?_
    refine tk 5 hS ?_
    refine tk 6 hS ?_
    refine tl 7 hS (fun w hw => ld_u hw.2.1) ?_
    refine tk 8 hS ?_
    refine tk 9 hS ?_
    have N2' := own_fs ⟨K11.out.box, Touch.refl _ _⟩ K11.out.box N2.out (by decide)
    have gz : g2 ≠ z := fun e => not_at N2.out K11.out.box (by decide) (by rw [e]; rfl)
    have GZ := Lib.hid gz
    clear N2' gz
    refine hs 10 (MBox.store_cnt K12.box _) fun wy hw => ?_
    have K13 := K12.put (m' := { m10 with cnt := nt (nums2 F) 0 }) hw
    have hS2 : wy.cell? ⟨g2, 0, none⟩ = some (.int .u64 (nt (nums2 F) 0)) ∧ wy.cell? ⟨g2, 1, none⟩ = some (.int .u64 (nt (nums2 F) 1)) ∧ ∃ m', Fs w1 wy z m' := by
      have hb : ∀ j, wy.cell? ⟨g2, j, none⟩ = wz.cell? ⟨g2, j, none⟩ := fun j => World.cell?_of_block (a := ⟨g2, j, none⟩) (by subst hw; exact setRow_other _ _ _ _ GZ.out)
      exact ⟨(hb 0).trans hS.1, (hb 1).trans hS.2.1, _, K13⟩
    refine ⟨hS2, fun hS => ?_⟩
    clear hw hS2
    refine tk 11 hS ?_
    refine tk 12 hS ?_
    refine hs 13 (MBox.store_nxt K13.box _) fun wx hw => ?_
    have K14 := K13.put (m' := { m10 with cnt := nt (nums2 F) 0, nxt := nt (nums2 F) 1 }) hw
    have hS2 : wx.cell? ⟨g2, 0, none⟩ = some (.int .u64 (nt (nums2 F) 0)) ∧ wx.cell? ⟨g2, 1, none⟩ = some (.int .u64 (nt (nums2 F) 1)) ∧ ∃ m', Fs w1 wx z m' := by
      have hb : ∀ j, wx.cell? ⟨g2, j, none⟩ = wy.cell? ⟨g2, j, none⟩ := fun j => World.cell?_of_block (a := ⟨g2, j, none⟩) (by subst hw; exact setRow_other _ _ _ _ GZ.out)
      exact ⟨(hb 0).trans hS.1, (hb 1).trans hS.2.1, _, K14⟩
    refine ⟨hS2, fun hS => ?_⟩
    clear hw hS2
    refine wpAnyH_done (by kernel_rfl) ?_ _
    obtain ⟨q, c', e10, fv⟩ := X10.out.2
    have em : ({ m10 with cnt := nt (nums2 F) 0, nxt := nt (nums2 F) 1 } : Mc) = fillM m F h73 q c' := by rw [e10, HM9.out, HM8.out, HM7.out, HM5.out, HM3.out]; rfl
    rw [em] at K14
    have KF : Fs W wx z (fillM m F h73 q c') := ⟨K14.box, K1.out.t.trans K14.t⟩
    refine bodyPost_end (results_none rfl _ _ _) rfl ⟨rfl, q, c', KF, fv⟩
end Go.Proofs.Ytgflnfmnjlmenaa
