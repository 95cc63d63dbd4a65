/- At most thirty records, of a list of any length. -/
import Derived.Test.YtkecjopojnllnaaWG
namespace Go.Proofs.Ytkecjopojnllnaa
open Go.RowKit Go.Deep Go.Joins
set_option maxRecDepth 100000 in
set_option maxHeartbeats 2000000 in
theorem few_all (P : List ByteArray) (v : Value) (w : World) (hr : Reads w v 1 P.length (strs P)) (hm : P.length ≤ 9223372036854775807) :
    Calls Try.prog 26 #[v] w fun e w' => ∃ u, e = .returned u ∧ w'.ownsRow w.heap.size 9 1 u (fewL P).length (strs (fewL P)) ∧ Below w.heap.size w w' := by
  obtain ⟨q, cap, rfl⟩ := hr.is
  obtain ⟨i0, hi, hz0, hz1, hz2⟩ := info_parts (show (Try.prog.info? 9).map (fun i => (i.zero, i.size, i.bytes)) = some (some (.string .empty), 1, 16) by kernel_rfl)
  go_enter Try.func26, Try.ntmps26
  go_wp2_with fail
  go_loopw [4, 3] (fun i u wr => ∃ k : Nat, k ≤ P.length ∧ k ≤ 30 ∧ i = .int .i64 (k : Int) ∧ Hid (wr.ownsRow w.heap.size 9 1 u ((P.take k).filter fun s => decide (s.size ≤ 40000)).length (strs ((P.take k).filter fun s => decide (s.size ≤ 40000)))) ∧ Hid (Below w.heap.size w wr)) (fun i _ _ => P.length - (intOf i).toNat)
  case atStart => exact ⟨0, Nat.zero_le _, by omega, rfl, World.ownsRow_nil _ _ _ _, Below.refl _ _⟩
  case round =>
    obtain ⟨k, hk, hk30, rfl, hown, hbl⟩ := hrel
    by_cases hlt : k < P.length
    · by_cases h30 : k < 30
      · obtain ⟨b1, off1, cap1, hv, _, _, hb1, c0⟩ := (hr.below hbl.out).str k hlt
        obtain ⟨rfl, rfl⟩ : q = some ⟨b1, off1, none⟩ ∧ cap = cap1 := by simpa using hv
        have HY := Lib.hid (few_yes P k hlt)
        have HN := Lib.hid (few_no P k hlt)
        have HLN := Lib.hid (few_len P k)
        obtain ⟨s, hs⟩ : ∃ s, P[k] = s := ⟨_, rfl⟩
        simp only [hs] at c0 HY HN
        obtain ⟨F, hF⟩ : ∃ F, (P.take k).filter (fun s => decide (s.size ≤ 40000)) = F := ⟨_, rfl⟩
        rw [hF] at HY HN HLN hown
        clear hv hs hF
        by_cases hz : s.size ≤ 40000
        · have z1 : (s.size : Int) ≤ 40000 := by omega
          have HZ := Lib.hid hz
          clear hz
          go_wp2_with (first
            | (at_builtin; refine wpList_append_own _ rfl _ _ 27 rfl w.heap.size 9 i0 (.string .empty) 1 16 Try.underlying27 hi hz0 hz1 hz2 rfl (by decide) _ F.length (strs F) rfl ?a1 ⟨wr.heap.size, 0, none⟩ 1 1 [.string s] rfl rfl ?a2 ?a3 ?a4 ?a5 ?a6 ?_; rotate_right 1; intro v6 w6 hown6 hg6 hnil6; have HOWN6 := Lib.hid hown6; have HG6 := Lib.hid hg6; clear hown6 hg6 hnil6)
            | fail)
          case a1 => exact owns_below hown.out (below1 _ _)
          case a2 =>
            intro j u hu
            rw [add_lit, Nat.zero_add, cell_of_row _ _ _ _ 9 _ (heap_alloc_new wr _)]
            simpa using hu
          case a3 =>
            intro u hu
            simp at hu
            rcases hu with rfl
            rfl
          case a4 => have := HLN.out; unfold maxLen; omega
          case a5 => have := HLN.out; omega
          case a6 => have := hbl.out.size; simp; omega
          go_roundw
          case rel =>
            refine ⟨k + 1, by omega, by omega, by go_num, ?_, Lib.hid (below_grown (nb_alloc hbl.out (.cells #[.string s] 9)) (owns_below hown.out (below1 _ _)) HG6.out)⟩
            rw [HY.out HZ.out, strs_one, List.length_append, List.length_singleton]
            exact HOWN6
          case measure => simp [intOf]; omega
        · have z1 : ¬ (s.size : Int) ≤ 40000 := by omega
          have HZ := Lib.hid hz
          clear hz
          go_wp2_with fail
          go_roundw
          case rel =>
            refine ⟨k + 1, by omega, by omega, by go_num, ?_, hbl⟩
            rw [HN.out HZ.out]
            exact hown
          case measure => simp [intOf]; omega
      · obtain rfl : k = 30 := by omega
        go_wp2_with fail
        go_ret
        exact ⟨_, rfl, hown.out, hbl.out⟩
    · obtain rfl : k = P.length := by omega
      have e : fewL P = (P.take P.length).filter fun s => decide (s.size ≤ 40000) := by unfold fewL; rw [List.take_length, List.take_of_length_le hk30]
      have HE := Lib.hid e
      clear e
      go_wp2_with fail
      go_ret
      exact ⟨_, rfl, by rw [HE.out]; exact hown.out, hbl.out⟩
end Go.Proofs.Ytkecjopojnllnaa
