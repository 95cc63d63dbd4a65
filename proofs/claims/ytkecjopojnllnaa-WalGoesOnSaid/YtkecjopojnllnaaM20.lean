/- At most thirty records; the first fourteen of a list. -/
import Derived.Test.YtkecjopojnllnaaM19
namespace Go.Proofs.Ytkecjopojnllnaa
open Go.RowKit Go.Deep Go.Joins

/-- All files before a place have names of their own. -/
def Apart (l : List Rw) (k : Nat) : Prop := ∀ i j (hi : i < l.length) (hj : j < l.length), i < k → j < i → l[i].name ≠ l[j].name
set_option maxRecDepth 100000 in
set_option maxHeartbeats 2000000 in
theorem unlike_any (l : List Rw) (v : Value) (w : World) (hr : Reads w v 3 l.length (rowCells l)) (hm : l.length ≤ 1099511627776) :
    Calls Try.prog 24 #[.agg #[v]] w fun e w' => ∃ B : Bool, e = .returned (.bool B) ∧ (B = true → Apart l l.length) ∧ Below w.heap.size w w' := by
  obtain ⟨p, cap, rfl⟩ := hr.is
  go_enter Try.func24, Try.ntmps24
  go_wp2_with fail
  go_loopw [3] (fun i wr => ∃ k : Nat, k ≤ l.length ∧ i = .int .i64 (k : Int) ∧ Hid (Apart l k) ∧ Hid (Below (w.heap.size + 1) (w.alloc (.cells #[.slice p l.length cap] 24)) wr)) (fun i _ => l.length - (intOf i).toNat)
  case atStart => exact ⟨0, Nat.zero_le _, rfl, fun i j _ _ h => absurd h (Nat.not_lt_zero _), Below.refl _ _⟩
  case round =>
    obtain ⟨k, hk, rfl, hap, hbl⟩ := hrel
    obtain ⟨wo, hwo⟩ : ∃ wo, wo = wr := ⟨_, rfl⟩
    subst hwo
    have hbw : Below w.heap.size w wo := (below1 w _).trans (hbl.out.mono (by omega))
    have HBW := Lib.hid hbw
    have f0 : wo.cell? ⟨w.heap.size, 0, none⟩ = some (.slice p l.length cap) := (hbl.out.cell (p := ⟨w.heap.size, 0, none⟩) (by simp)).trans (by simp)
    clear hbw
    by_cases hlt : k < l.length
    · go_wp2_with fail
      go_loopw [4] (fun i wi => ∃ t : Nat, t ≤ k ∧ i = .int .i64 (t : Int) ∧ Hid (∀ j (hj : j < l.length), j < t → l[k].name ≠ l[j].name) ∧ Hid (Below wo.heap.size wo wi)) (fun i _ => k - (intOf i).toNat)
      case atStart => exact ⟨0, Nat.zero_le _, rfl, fun j _ h => absurd h (Nat.not_lt_zero _), Below.refl _ _⟩
      case round =>
        obtain ⟨t, ht, rfl, hne, hbi⟩ := hrel
        obtain ⟨wi, hwi⟩ : ∃ wi, wi = wr := ⟨_, rfl⟩
        subst hwi
        have f1 := below_cell hbi.out f0
        by_cases htk : t < k
        · have htl : t < l.length := by omega
          obtain ⟨b1, off1, cap1, hv, _, _, hb1, c0, _⟩ := (hr.below (below_then HBW.out hbi.out)).file k hlt
          obtain ⟨rfl, rfl⟩ : p = some ⟨b1, off1, none⟩ ∧ cap = cap1 := by simpa using hv
          obtain ⟨b2, off2, cap2, hv2, _, _, hb2, c1, _⟩ := (hr.below (below_then HBW.out hbi.out)).file t htl
          obtain ⟨⟨rfl, rfl⟩, _⟩ : (b1 = b2 ∧ off1 = off2) ∧ cap = cap2 := by simpa using hv2
          have HNX := Lib.hid (fun (h : l[k].name ≠ l[t].name) => show ∀ j (hj : j < l.length), j < t + 1 → l[k].name ≠ l[j].name from fun j hj hjt => by
            rcases Nat.lt_or_ge j t with h1 | h1
            · exact hne.out j hj h1
            · obtain rfl : j = t := by omega
              exact h)
          obtain ⟨x, hx⟩ : ∃ x, l[k].name = x := ⟨_, rfl⟩
          obtain ⟨y, hy⟩ : ∃ y, l[t].name = y := ⟨_, rfl⟩
          have HX := Lib.hid hx
          have HY := Lib.hid hy
          rw [hx] at c0
          rw [hy] at c1
          clear hv hv2 hx hy hne
          rcases Bool.eq_false_or_eq_true (x.toList == y.toList) with he | he
          · have HE := Lib.hid he
            go_wp2_with fail
            go_region_held3 (fun W => W.cell? ⟨w.heap.size, 0, none⟩ = some (.slice (some ⟨b1, off1, none⟩) l.length cap) ∧ W.cell? ⟨b1, off1 + k * 3, none⟩ = some (.string x) ∧ W.cell? ⟨b1, off1 + t * 3, none⟩ = some (.string y)) (first | exact ⟨f1, c0, c1⟩ | fail) (fail)
            go_wp2_with fail
            go_ret
            exact ⟨false, rfl, (fun h => by cases h), below_then (below_then HBW.out hbi.out) ((Below.refl _ _).drew)⟩
          · have HE : Hid (x ≠ y) := Lib.hid (fun e => by rw [e, beq_self_eq_true] at he; cases he)
            go_wp2_with fail
            go_region_held3 (fun W => W.cell? ⟨w.heap.size, 0, none⟩ = some (.slice (some ⟨b1, off1, none⟩) l.length cap) ∧ W.cell? ⟨b1, off1 + k * 3, none⟩ = some (.string x) ∧ W.cell? ⟨b1, off1 + t * 3, none⟩ = some (.string y)) (first | exact ⟨f1, c0, c1⟩ | fail) (fail)
            go_wp2_with fail
            go_round
            case rel => exact ⟨t + 1, by omega, by go_num, Lib.hid (HNX.out (by simp only [HX.out, HY.out]; exact HE.out)), Lib.hid (below_then hbi.out (Below.refl _ _).drew)⟩
            case measure => simp [intOf]; omega
        · obtain rfl : t = k := by omega
          have HN := Lib.hid (show Apart l (t + 1) from fun i j hi hj hit hji => by
            rcases Nat.lt_or_ge i t with h1 | h1
            · exact hap.out i j hi hj h1 hji
            · obtain rfl : i = t := by omega
              exact hne.out j hj hji)
          clear hne
          go_wp2_with fail
          go_round
          case rel => exact ⟨t + 1, by omega, by go_num, HN, Lib.hid (hbl.out.trans (hbi.out.mono (by have := hbl.out.size; simpa using this)))⟩
          case measure => simp [intOf]; omega
    · obtain rfl : k = l.length := by omega
      go_wp2_with fail
      go_ret
      exact ⟨true, rfl, fun _ => hap.out, HBW.out⟩

end Go.Proofs.Ytkecjopojnllnaa
namespace Go.Proofs.Ytkecjopojnllnaa
open Go.RowKit Go.Deep Go.Joins

/-- At most thirty records, each short. -/
def fewL (P : List ByteArray) : List ByteArray := (P.take 30).filter fun s => decide (s.size ≤ 40000)
theorem few_len (P : List ByteArray) (k : Nat) : ((P.take k).filter fun s => decide (s.size ≤ 40000)).length ≤ k := Nat.le_trans (List.length_filter_le _ _) (by rw [List.length_take]; omega)
theorem few_yes (P : List ByteArray) (k : Nat) (h : k < P.length) (hs : P[k].size ≤ 40000) : (P.take (k + 1)).filter (fun s => decide (s.size ≤ 40000)) = (P.take k).filter (fun s => decide (s.size ≤ 40000)) ++ [P[k]] := by
  rw [List.take_succ_eq_append_getElem h, List.filter_append, List.filter_cons_of_pos (by simpa using hs)]
  rfl
theorem few_no (P : List ByteArray) (k : Nat) (h : k < P.length) (hs : ¬ P[k].size ≤ 40000) : (P.take (k + 1)).filter (fun s => decide (s.size ≤ 40000)) = (P.take k).filter (fun s => decide (s.size ≤ 40000)) := by
  rw [List.take_succ_eq_append_getElem h, List.filter_append, List.filter_cons_of_neg (by simpa using hs), List.filter_nil, List.append_nil]
set_option maxRecDepth 100000 in
set_option maxHeartbeats 2000000 in
theorem few_any (P : List ByteArray) (v : Value) (w : World) (hr : Reads w v 1 P.length (strs P)) (hm : P.length ≤ 1099511627776) :
    Calls Try.prog 26 #[v] w fun e w' => ∃ u, e = .returned u ∧ w'.ownsRow w.heap.size 9 1 u (fewL P).length (strs (fewL P)) ∧ Below w.heap.size w w' := by
  obtain ⟨q, cap, rfl⟩ := hr.is
  obtain ⟨i0, hi, hz0, hz1, hz2⟩ := info_parts (show (Try.prog.info? 9).map (fun i => (i.zero, i.size, i.bytes)) = some (some (.string .empty), 1, 16) by kernel_rfl)
  go_enter Try.func26, Try.ntmps26
  go_wp2_with fail
  go_loopw [4, 3] (fun i u wr => ∃ k : Nat, k ≤ P.length ∧ k ≤ 30 ∧ i = .int .i64 (k : Int) ∧ Hid (wr.ownsRow w.heap.size 9 1 u ((P.take k).filter fun s => decide (s.size ≤ 40000)).length (strs ((P.take k).filter fun s => decide (s.size ≤ 40000)))) ∧ Hid (Below w.heap.size w wr)) (fun i _ _ => P.length - (intOf i).toNat)
  case atStart => exact ⟨0, Nat.zero_le _, by omega, rfl, World.ownsRow_nil _ _ _ _, Below.refl _ _⟩
  case round =>
    obtain ⟨k, hk, hk30, rfl, hown, hbl⟩ := hrel
    by_cases hlt : k < P.length
    · by_cases h30 : k < 30
      · obtain ⟨b1, off1, cap1, hv, _, _, hb1, c0⟩ := (hr.below hbl.out).str k hlt
        obtain ⟨rfl, rfl⟩ : q = some ⟨b1, off1, none⟩ ∧ cap = cap1 := by simpa using hv
        have HY := Lib.hid (few_yes P k hlt)
        have HN := Lib.hid (few_no P k hlt)
        have HLN := Lib.hid (few_len P k)
        obtain ⟨s, hs⟩ : ∃ s, P[k] = s := ⟨_, rfl⟩
        simp only [hs] at c0 HY HN
        obtain ⟨F, hF⟩ : ∃ F, (P.take k).filter (fun s => decide (s.size ≤ 40000)) = F := ⟨_, rfl⟩
        rw [hF] at HY HN HLN hown
        clear hv hs hF
        by_cases hz : s.size ≤ 40000
        · have z1 : (s.size : Int) ≤ 40000 := by omega
          have HZ := Lib.hid hz
          clear hz
          go_wp2_with (first
            | (at_builtin; refine wpList_append_own _ rfl _ _ 27 rfl w.heap.size 9 i0 (.string .empty) 1 16 Try.underlying27 hi hz0 hz1 hz2 rfl (by decide) _ F.length (strs F) rfl ?a1 ⟨wr.heap.size, 0, none⟩ 1 1 [.string s] rfl rfl ?a2 ?a3 ?a4 ?a5 ?a6 ?_; rotate_right 1; intro v6 w6 hown6 hg6 hnil6; have HOWN6 := Lib.hid hown6; have HG6 := Lib.hid hg6; clear hown6 hg6 hnil6)
            | fail)
          case a1 => exact owns_below hown.out (below1 _ _)
          case a2 =>
            intro j u hu
            rw [add_lit, Nat.zero_add, cell_of_row _ _ _ _ 9 _ (heap_alloc_new wr _)]
            simpa using hu
          case a3 =>
            intro u hu
            simp at hu
            rcases hu with rfl
            rfl
          case a4 => have := HLN.out; unfold maxLen; omega
          case a5 => have := HLN.out; omega
          case a6 => have := hbl.out.size; simp; omega
          go_roundw
          case rel =>
            refine ⟨k + 1, by omega, by omega, by go_num, ?_, Lib.hid (below_grown (nb_alloc hbl.out (.cells #[.string s] 9)) (owns_below hown.out (below1 _ _)) HG6.out)⟩
            rw [HY.out HZ.out, strs_one, List.length_append, List.length_singleton]
            exact HOWN6
          case measure => simp [intOf]; omega
        · have z1 : ¬ (s.size : Int) ≤ 40000 := by omega
          have HZ := Lib.hid hz
          clear hz
          go_wp2_with fail
          go_roundw
          case rel =>
            refine ⟨k + 1, by omega, by omega, by go_num, ?_, hbl⟩
            rw [HN.out HZ.out]
            exact hown
          case measure => simp [intOf]; omega
      · obtain rfl : k = 30 := by omega
        go_wp2_with fail
        go_ret
        exact ⟨_, rfl, hown.out, hbl.out⟩
    · obtain rfl : k = P.length := by omega
      have e : fewL P = (P.take P.length).filter fun s => decide (s.size ≤ 40000) := by unfold fewL; rw [List.take_length, List.take_of_length_le hk30]
      have HE := Lib.hid e
      clear e
      go_wp2_with fail
      go_ret
      exact ⟨_, rfl, by rw [HE.out]; exact hown.out, hbl.out⟩
set_option maxRecDepth 100000 in
set_option maxHeartbeats 1000000 in
theorem half_any (P : List ByteArray) (v : Value) (w : World) (hr : Reads w v 1 P.length (strs P)) :
    Calls Try.prog 29 #[v] w fun e w' => ∃ u, e = .returned u ∧ Reads w' u 1 (P.take 14).length (strs (P.take 14)) ∧ Below w.heap.size w w' := by
  by_cases h : 14 < P.length
  · obtain ⟨b, off, cap, rfl, h1, h2, hb, hc⟩ := hr.at (by omega)
    have g1 : (14 : Int) < (P.length : Int) := by omega
    have g2 : (14 : Int) ≤ (cap : Int) := by omega
    have hl : (P.take 14).length = 14 := by rw [List.length_take]; omega
    have HRD : Hid (Reads w (.slice (some ⟨b, off, none⟩) 14 cap) 1 (P.take 14).length (strs (P.take 14))) := by
      rw [hl]
      refine Lib.hid ⟨by rw [strs_length, hl], .inr ⟨_, cap, rfl, by omega, h2, fun j u hu => ?_⟩⟩
      rw [add_lit]
      refine hc j u ?_
      unfold strs at hu ⊢
      rw [List.getElem?_map] at hu ⊢
      rw [List.getElem?_take] at hu
      split at hu
      · exact hu
      · cases hu
    clear hc hr h1 h2 hl
    go_enter Try.func29, Try.ntmps29
    go_wp2_with fail
    go_ret
    exact ⟨_, rfl, HRD.out, Below.refl _ _⟩
  · obtain ⟨q, cap, rfl⟩ := hr.is
    have g1 : ¬ (14 : Int) < (P.length : Int) := by omega
    have e : P.take 14 = P := List.take_of_length_le (by omega)
    have HE := Lib.hid e
    clear e
    go_enter Try.func29, Try.ntmps29
    go_wp2_with fail
    go_ret
    exact ⟨.slice q P.length cap, rfl, by rw [HE.out, show min 14 P.length = P.length by omega]; exact hr, Below.refl _ _⟩

end Go.Proofs.Ytkecjopojnllnaa
