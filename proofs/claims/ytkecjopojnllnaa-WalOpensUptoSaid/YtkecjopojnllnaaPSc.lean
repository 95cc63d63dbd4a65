/- The disk of the reference, and what of the disk the log calls (my own, from the seat of the disk): Sc. -/
import Derived.Test.YtkecjopojnllnaaPSb
namespace Go.Proofs.Ytkecjopojnllnaa
open Go.RowKit Go.Deep Go.Joins
set_option maxRecDepth 100000 in
set_option maxHeartbeats 1000000 in
theorem whole_any (n s : ByteArray) (l : List Wr) (v : Value) (w : World) (hr : Reads w v 2 l.length (wrCells l)) (hm : l.length ≤ 1099511627776) (hs : s.size ≤ 1099511627776) (hb : ∀ x ∈ l, x.bytes.size ≤ 1099510579200) :
    Calls Try.prog 60 #[.agg #[.string n, .string s, v]] w fun e w' => e = .returned (.string (layB s l)) ∧ Below w.heap.size w w' := by
  obtain ⟨p, cap, rfl⟩ := hr.is
  have hlay := layB_fold s l
  have HLAY := Lib.hid hlay
  clear hlay
  go_enter Try.func60, Try.ntmps60
  go_wp2_with fail
  go_loopw [3, 4] (fun u i wr => ∃ (k : Nat) (acc : ByteArray), k ≤ l.length ∧ i = .int .i64 k ∧ u = .string acc ∧ Hid (acc = (l.take k).foldl laidB s) ∧ acc.size ≤ 1099511627776 ∧ Hid (Below (w.heap.size + 1) (w.alloc (.cells #[.string n, .string s, .slice p l.length cap] 58)) wr)) (fun _ i _ => l.length - (intOf i).toNat)
  case atStart => exact ⟨0, s, Nat.zero_le _, rfl, rfl, rfl, hs, Below.refl _ _⟩
  case round =>
    obtain ⟨k, acc, hk, rfl, rfl, hacc, hsz, hbl⟩ := hrel
    have hbw : Below w.heap.size w wr := (below1 w _).trans (hbl.out.mono (by omega))
    have HBW := Lib.hid hbw
    have f2 : wr.cell? ⟨w.heap.size, 2, none⟩ = some (.slice p l.length cap) := (hbl.out.cell (p := ⟨w.heap.size, 2, none⟩) (by simp)).trans (by simp)
    have hlt2 : w.heap.size < wr.heap.size := lt_of_cell f2
    clear hbw
    by_cases hlt : k < l.length
    · obtain ⟨b1, off1, cap1, hv, _, _, hb1, c0, c1⟩ := (hr.below HBW.out).write k hlt
      obtain ⟨rfl, rfl⟩ : p = some ⟨b1, off1, none⟩ ∧ cap = cap1 := by simpa using hv
      have hbk := hb l[k] (List.getElem_mem _)
      have hcall := fun W => laid_any acc l[k].pos l[k].bytes W hsz (by omega)
      have HC := Lib.hid hcall
      clear hcall hv
      go_wp2_with fail
      go_region_held3 (fun w' => w'.cell? ⟨w.heap.size, 2, none⟩ = some (.slice (some ⟨b1, off1, none⟩) l.length cap) ∧ w'.cell? ⟨b1, off1 + k * 2, none⟩ = some (.int .i64 l[k].pos) ∧ w'.cell? ⟨b1, off1 + k * 2 + 1, none⟩ = some (.string l[k].bytes))
        (first | with_reducible exact n5 | go_keep)
        (first | (go_at_call 68; refine (HC.out _).mono ?_; rintro e w5 ⟨rfl, hb5⟩; have N5 : Below wr.heap.size wr w5 := below_then (Below.refl _ _).drew hb5; have n5 : w5.cell? ⟨w.heap.size, 2, none⟩ = some (.slice (some ⟨b1, off1, none⟩) l.length cap) ∧ w5.cell? ⟨b1, off1 + k * 2, none⟩ = some (.int .i64 l[k].pos) ∧ w5.cell? ⟨b1, off1 + k * 2 + 1, none⟩ = some (.string l[k].bytes) := ⟨below_cell N5 f2, below_cell N5 c0, below_cell N5 c1⟩))
      go_wp2_with fail
      go_round
      case rel => exact ⟨k + 1, _, by omega, by go_num, rfl, by show _ = _; rw [fold_snoc l k hlt, ← hacc.out], laidB_small _ _ hsz hbk, hbl.out.trans (N5.mono (by omega))⟩
      case measure => simp [intOf]; omega
    · obtain rfl : k = l.length := by omega
      have hfin := hacc.out
      rw [List.take_length, ← HLAY.out] at hfin
      have HFIN := Lib.hid hfin
      clear hfin
      go_wp2_with fail
      go_ret
      exact ⟨ret_string HFIN.out, HBW.out⟩
set_option maxHeartbeats 1000000 in
set_option maxRecDepth 100000 in
theorem find2_any (l : List Rw) (v : Value) (x : ByteArray) (w : World) (hr : Reads w v 3 l.length (rowCells l)) (hm : l.length ≤ 1099511627776) :
    Calls Try.prog 59 #[.agg #[v], .string x] w fun e w' => e = .returned (.int .i64 (idx (sameName x) l)) ∧ Below w.heap.size w w' := by
  obtain ⟨p, cap, rfl⟩ := hr.is
  go_enter Try.func59, Try.ntmps59
  go_wp2_with fail
  go_loopw [5] (fun i wr => ∃ k : Nat, k ≤ l.length ∧ i = .int .i64 k ∧ Hid (noneYet (sameName x) l k) ∧ Hid (Below (w.heap.size + 1) (w.alloc (.cells #[.slice p l.length cap] 24)) wr)) (fun i _ => l.length - (intOf i).toNat)
  case atStart => exact ⟨0, Nat.zero_le _, rfl, fun j _ h => absurd h (Nat.not_lt_zero _), Below.refl _ _⟩
  case round =>
    obtain ⟨k, hk, rfl, hall, hbl⟩ := hrel
    have hbw : Below w.heap.size w wr := (below1 w _).trans (hbl.out.mono (by omega))
    have HBW := Lib.hid hbw
    have f0 : wr.cell? ⟨w.heap.size, 0, none⟩ = some (.slice p l.length cap) := (hbl.out.cell (p := ⟨w.heap.size, 0, none⟩) (by simp)).trans (by simp)
    have hlt2 : w.heap.size < wr.heap.size := lt_of_cell f0
    clear hbw
    by_cases hlt : k < l.length
    · obtain ⟨b1, off1, cap1, hv, _, _, hb1, c0, c1, c2⟩ := (hr.below HBW.out).file k hlt
      obtain ⟨rfl, rfl⟩ : p = some ⟨b1, off1, none⟩ ∧ cap = cap1 := by simpa using hv
      clear hv
      rcases Bool.eq_false_or_eq_true (l[k].name.toList == x.toList) with hl | hl
      · have HL := Lib.hid hl
        go_wp2_with fail
        go_ret
        exact ⟨ret_int (idx_some hlt hall.out HL.out).symm, HBW.out⟩
      · have HL := Lib.hid hl
        go_wp2_with fail
        go_round
        case rel => exact ⟨k + 1, by omega, by go_num, noneYet_succ hall.out fun _ => HL.out, hbl⟩
        case measure => simp [intOf]; omega
    · obtain rfl : k = l.length := by omega
      go_wp2_with fail
      go_ret
      exact ⟨ret_int (idx_none hall.out).symm, HBW.out⟩
set_option maxHeartbeats 1000000 in
set_option maxRecDepth 100000 in
theorem bytes2_none (l : List Rw) (v : Value) (x : ByteArray) (w : World) (hr : Reads w v 3 l.length (rowCells l)) (hm : l.length ≤ 1099511627776) (hn : idx (sameName x) l = -1) :
    Calls Try.prog 39 #[.agg #[v], .string x] w fun e w' => e = .returned (.tuple #[.string ⟨#[]⟩, .int .i64 20]) ∧ Below w.heap.size w w' := by
  go_enter Try.func39, Try.ntmps39
  go_wp2_with fail
  refine (find2_any l v x _ (hr.below (below1 w _)) hm).mono ?_
  rintro e w1 ⟨rfl, hb⟩
  rw [hn]
  go_wp2_with fail
  go_ret2
  exact ⟨rfl, below_then (below1 w _) hb⟩
set_option maxHeartbeats 1000000 in
set_option maxRecDepth 100000 in
theorem bytes2_some (l : List Rw) (v : Value) (x : ByteArray) (w : World) (k : Nat) (hk : k < l.length) (hr : Reads w v 3 l.length (rowCells l)) (ho : Opens w l) (hm : l.length ≤ 1099511627776)
    (hs : l[k].safe.size ≤ 1099511627776) (hol : l[k].opens.length ≤ 1099511627776) (hb : ∀ x ∈ l[k].opens, x.bytes.size ≤ 1099510579200) (hn : idx (sameName x) l = k) :
    Calls Try.prog 39 #[.agg #[v], .string x] w fun e w' => e = .returned (.tuple #[.string (layB l[k].safe l[k].opens), .int .i64 0]) ∧ Below w.heap.size w w' := by
  have HOP := Lib.hid (ho l[k] (List.getElem_mem _))
  have HB := Lib.hid hb
  clear hb ho
  go_enter Try.func39, Try.ntmps39
  go_wp2_with fail
  refine (find2_any l v x _ (hr.below (below1 w _)) hm).mono ?_
  rintro e w1 ⟨rfl, hb⟩
  rw [hn]
  have r0 := hb.cell (p := ⟨w.heap.size, 0, none⟩) (by simp)
  have hbw := below_then (below1 w _) hb
  obtain ⟨b, off, cap, hv, _, _, hb1, c0, c1, c2⟩ := (hr.below hbw).file k hk
  subst hv
  have HBB := Lib.hid hb
  clear hb hn
  go_wp2_with fail
  refine (whole_any _ _ _ _ _ (HOP.out.below hbw) hol hs HB.out).mono ?_
  rintro e w2 ⟨rfl, hb2⟩
  go_wp2_with fail
  go_ret2
  exact ⟨rfl, below_then hbw hb2⟩
set_option maxRecDepth 100000 in
set_option maxHeartbeats 1000000 in
theorem survived_any (n s : ByteArray) (l : List Wr) (v : Value) (whole : List Bool) (wv : Value) (torn nb : Int) (w : World) (hr : Reads w v 2 l.length (wrCells l)) (hm : l.length ≤ 1099511627776)
    (hw : Reads w wv 1 whole.length (boolCells whole)) (hs : s.size ≤ 1099511627776) (hb : ∀ x ∈ l, x.bytes.size ≤ 1099510579200) :
    Calls Try.prog 48 #[.agg #[.string n, .string s, v], .agg #[wv, .int .i64 torn, .int .i64 nb]] w fun e w' => e = .returned (.string (layB s (surv whole torn nb 0 l))) ∧ Below w.heap.size w w' := by
  obtain ⟨p, cap, rfl⟩ := hr.is
  obtain ⟨p2, cap2, rfl⟩ := hw.is
  obtain ⟨R, hR⟩ : ∃ R, R = layB s (surv whole torn nb 0 l) := ⟨_, rfl⟩
  have hst : (surv whole torn nb 0 (l.drop 0)).foldl laidB s = R := by rw [hR, layB_fold]; rfl
  rw [← hR]
  have HST := Lib.hid hst
  clear hst hR
  go_enter Try.func48, Try.ntmps48
  go_wp2_with fail
  go_loopw [5, 6] (fun u i wr => ∃ (k : Nat) (acc : ByteArray), k ≤ l.length ∧ i = .int .i64 k ∧ u = .string acc ∧ Hid ((surv whole torn nb k (l.drop k)).foldl laidB acc = R) ∧ acc.size ≤ 1099511627776 ∧
    Hid (Below (w.heap.size + 2) ((w.alloc (.cells #[.string n, .string s, .slice p l.length cap] 58)).alloc (.cells #[.slice p2 whole.length cap2, .int .i64 torn, .int .i64 nb] 91)) wr)) (fun _ i _ => l.length - (intOf i).toNat)
  case atStart => exact ⟨0, s, Nat.zero_le _, rfl, rfl, HST, hs, Below.refl _ _⟩
  case round =>
    obtain ⟨k, acc, hk, rfl, rfl, hacc, hsz, hbl⟩ := hrel
    have hbw : Below w.heap.size w wr := (below2 w _ _).trans (hbl.out.mono (by omega))
    have HBW := Lib.hid hbw
    have f2 : wr.cell? ⟨w.heap.size, 2, none⟩ = some (.slice p l.length cap) := (hbl.out.cell (p := ⟨w.heap.size, 2, none⟩) (by simp)).trans (by simp)
    have g0 : wr.cell? ⟨w.heap.size + 1, 0, none⟩ = some (.slice p2 whole.length cap2) := (hbl.out.cell (p := ⟨w.heap.size + 1, 0, none⟩) (by simp)).trans (by simp)
    have g1 : wr.cell? ⟨w.heap.size + 1, 1, none⟩ = some (.int .i64 torn) := (hbl.out.cell (p := ⟨w.heap.size + 1, 1, none⟩) (by simp)).trans (by simp)
    have g2 : wr.cell? ⟨w.heap.size + 1, 2, none⟩ = some (.int .i64 nb) := (hbl.out.cell (p := ⟨w.heap.size + 1, 2, none⟩) (by simp)).trans (by simp)
    have hlt1 : w.heap.size < wr.heap.size := lt_of_cell f2
    have hlt2 : w.heap.size + 1 < wr.heap.size := lt_of_cell g0
    clear hbw
    by_cases hlt : k < l.length
    · obtain ⟨b1, off1, cap1, hv, _, _, hb1, c0, c1⟩ := (hr.below HBW.out).write k hlt
      obtain ⟨rfl, rfl⟩ : p = some ⟨b1, off1, none⟩ ∧ cap = cap1 := by simpa using hv
      have hbk := hb l[k] (List.getElem_mem _)
      have hsu := hacc.out
      rw [List.drop_eq_getElem_cons hlt, surv_cons] at hsu
      have HSU := Lib.hid hsu
      have HRR := Lib.hid hr
      clear hv hsu hacc hr
      by_cases ht : (k : Int) = torn
      · have hb : ((k : Int) == torn) = true := by simpa using ht
        have hsu := HSU.out
        rw [if_pos ht] at hsu
        have HSU2 := Lib.hid (show laidB acc ⟨l[k].pos, cutTo nb l[k].bytes⟩ = R from hsu)
        have HT := Lib.hid ht
        clear ht hsu HSU
        by_cases hgt : (l[k].bytes.size : Int) < nb
        · by_cases hz : l[k].bytes.size = 0
          · have hfin := HSU2.out
            rw [cut_empty (.inr hz)] at hfin
            have HF := Lib.hid hfin
            have hp : decide ((0 : Int) < (l[k].bytes.size : Int)) = false := by simp [hz]
            clear hfin HSU2
            go_wp2_with fail
            go_ret
            exact ⟨ret_string HF.out, below_then HBW.out (below1 _ _)⟩
          · have hfin := HSU2.out
            rw [cut_all hgt] at hfin
            have HF := Lib.hid hfin
            have hp : (0 : Int) < (l[k].bytes.size : Int) := by omega
            have hcall := fun W => laid_any acc l[k].pos l[k].bytes W hsz (by omega)
            have HC := Lib.hid hcall
            clear hfin HSU2 hcall
            go_wp2_with fail
            go_region_held3 (fun w' => w'.cell? ⟨wr.heap.size, 0, none⟩ = some (.int .i64 l[k].pos) ∧ w'.cell? ⟨wr.heap.size, 1, none⟩ = some (.string l[k].bytes))
              (first | with_reducible exact n5 | go_keep)
              (first | (go_at_call 68; refine (HC.out _).mono ?_; rintro e w5 ⟨rfl, hb5⟩; have N5 : Below (wr.alloc (.cells #[.int .i64 l[k].pos, .string l[k].bytes] 76)).heap.size (wr.alloc (.cells #[.int .i64 l[k].pos, .string l[k].bytes] 76)) w5 := below_then (Below.refl _ _).drew hb5; have n5 : w5.cell? ⟨wr.heap.size, 0, none⟩ = some (.int .i64 l[k].pos) ∧ w5.cell? ⟨wr.heap.size, 1, none⟩ = some (.string l[k].bytes) := ⟨below_cell N5 (by simp), below_cell N5 (by simp)⟩))
            go_wp2_with fail
            go_ret
            exact ⟨ret_string HF.out, below_then HBW.out (below_then (below1 _ _) N5)⟩
        · by_cases hp : 0 < nb
          · obtain ⟨t, rfl⟩ := Int.eq_ofNat_of_zero_le (show 0 ≤ nb by omega)
            have hfin := HSU2.out
            rw [cut_some hgt] at hfin
            have HF := Lib.hid hfin
            have htl : t ≤ l[k].bytes.size := by omega
            have hcall := fun W => laid_any acc l[k].pos (l[k].bytes.extract 0 t) W hsz (by rw [ByteArray.size_extract]; omega)
            have HC := Lib.hid hcall
            clear hfin HSU2 hcall
            go_wp2_with fail
            go_region_held3 (fun w' => w'.cell? ⟨wr.heap.size, 0, none⟩ = some (.int .i64 l[k].pos) ∧ w'.cell? ⟨wr.heap.size, 1, none⟩ = some (.string l[k].bytes))
              (first | with_reducible exact n5 | go_keep)
              (first | (go_at_call 68; refine (HC.out _).mono ?_; rintro e w5 ⟨rfl, hb5⟩; have N5 : Below (wr.alloc (.cells #[.int .i64 l[k].pos, .string l[k].bytes] 76)).heap.size (wr.alloc (.cells #[.int .i64 l[k].pos, .string l[k].bytes] 76)) w5 := below_then (Below.refl _ _).drew hb5; have n5 : w5.cell? ⟨wr.heap.size, 0, none⟩ = some (.int .i64 l[k].pos) ∧ w5.cell? ⟨wr.heap.size, 1, none⟩ = some (.string l[k].bytes) := ⟨below_cell N5 (by simp), below_cell N5 (by simp)⟩))
            go_wp2_with fail
            go_ret
            exact ⟨ret_string HF.out, below_then HBW.out (below_then (below1 _ _) N5)⟩
          · have hfin := HSU2.out
            rw [cut_empty (.inl (by omega))] at hfin
            have HF := Lib.hid hfin
            clear hfin HSU2
            go_wp2_with fail
            go_ret
            exact ⟨ret_string HF.out, below_then HBW.out (below1 _ _)⟩
      · have hb : ((k : Int) == torn) = false := by simpa using ht
        have hsu := HSU.out
        rw [if_neg ht] at hsu
        have HSU2 := Lib.hid hsu
        have HT := Lib.hid ht
        clear ht hsu HSU
        by_cases hkw : k < whole.length
        · obtain ⟨b2, off2, cap3, hv, _, _, hb2, hcw⟩ := (hw.below HBW.out).at (by omega)
          obtain ⟨rfl, rfl⟩ : p2 = some ⟨b2, off2, none⟩ ∧ cap2 = cap3 := by simpa using hv
          have cw := hcw k (.bool whole[k]) (by simp [boolCells, hkw])
          clear hcw hv
          rcases Bool.eq_false_or_eq_true whole[k] with hwk | hwk
          · rw [hwk] at cw
            have hsu := HSU2.out
            rw [if_pos (show whole.getD k false = true by simp [hkw, hwk])] at hsu
            have HSU3 := Lib.hid hsu
            have hcall := fun W => laid_any acc l[k].pos l[k].bytes W hsz (by omega)
            have HC := Lib.hid hcall
            clear hsu HSU2 hcall
            go_wp2_with (go_at_call 68; refine (HC.out _).mono ?_; rintro e w5 ⟨rfl, hb5⟩)
            go_round
            case rel => exact ⟨k + 1, _, by omega, by go_num, rfl, HSU3.out, laidB_small _ _ hsz hbk, hbl.out.trans ((below_then (below1 wr _) hb5).mono (by omega))⟩
            case measure => simp [intOf]; omega
          · rw [hwk] at cw
            have hsu := HSU2.out
            rw [if_neg (show ¬ whole.getD k false = true by simp [hkw, hwk])] at hsu
            have HSU3 := Lib.hid hsu
            clear hsu HSU2
            go_wp2_with fail
            go_round
            case rel => exact ⟨k + 1, acc, by omega, by go_num, rfl, HSU3.out, hsz, hbl.out.trans ((below1 wr _).mono (by omega))⟩
            case measure => simp [intOf]; omega
        · have hsu := HSU2.out
          rw [if_neg (show ¬ whole.getD k false = true by simp [hkw])] at hsu
          have HSU3 := Lib.hid hsu
          clear hsu HSU2
          go_wp2_with fail
          go_round
          case rel => exact ⟨k + 1, acc, by omega, by go_num, rfl, HSU3.out, hsz, hbl.out.trans ((below1 wr _).mono (by omega))⟩
          case measure => simp [intOf]; omega
    · obtain rfl : k = l.length := by omega
      have hfin := hacc.out
      rw [List.drop_length, surv_nil] at hfin
      have HF := Lib.hid (show acc = R from hfin)
      clear hfin hacc
      go_wp2_with fail
      go_ret
      exact ⟨ret_string HF.out, HBW.out⟩
end Go.Proofs.Ytkecjopojnllnaa
