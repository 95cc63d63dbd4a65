/- The disk of the reference, and what of the disk the log calls (my own, from the seat of the disk): R. -/
import Derived.Test.YtkecjopojnllnaaM04
namespace Go.Proofs.Ytkecjopojnllnaa
open Go.RowKit Go.Deep Go.Joins
set_option maxRecDepth 100000 in
set_option maxHeartbeats 1000000 in
theorem laid_any (s : ByteArray) (pos : Int) (b : ByteArray) (w : World) (hs : s.size ≤ 1099511627776) (hb : b.size ≤ 1099511627776) :
    Calls Try.prog 68 #[.string s, .int .i64 pos, .string b] w fun e w' => e = .returned (.string (laidB s ⟨pos, b⟩)) ∧ Below w.heap.size w w' := by
  by_cases h0 : pos < 0
  · have hid := laidB_idle s ⟨pos, b⟩ (by simp [wk, worksB]; omega)
    rw [hid]
    go_enter Try.func68, Try.ntmps68
    go_wp2
    go_ret
    exact ⟨rfl, Below.refl _ _⟩
  by_cases h1 : 1048576 < pos
  · have hid := laidB_idle s ⟨pos, b⟩ (by simp [wk, worksB]; omega)
    rw [hid]
    go_enter Try.func68, Try.ntmps68
    go_wp2
    go_ret
    exact ⟨rfl, Below.refl _ _⟩
  by_cases h2 : b.size = 0
  · have h3 : b.toList.isEmpty = true := by
      rw [ByteArray.toList_eq, List.isEmpty_iff, ← List.length_eq_zero_iff, len_eq]
      exact h2
    have hid := laidB_idle s ⟨pos, b⟩ (by simp [wk, worksB, h3])
    rw [hid]
    have hz : ((b.size : Int) == 0) = true := by simp [h2]
    go_enter Try.func68, Try.ntmps68
    go_wp2
    go_ret
    exact ⟨rfl, Below.refl _ _⟩
  obtain ⟨t, rfl⟩ := Int.eq_ofNat_of_zero_le (show 0 ≤ pos by omega)
  have hw : wk ⟨(t : Int), b⟩ = true := wk_of (by omega) (by omega) (by omega)
  have hres : laidB s ⟨(t : Int), b⟩ = ⟨(spliceB (padTo s.data.toList (t + b.size)) t b).toArray⟩ := by
    unfold laidB laidL
    rw [if_pos hw]
    rfl
  have HRES := Lib.hid hres
  clear hres hw
  obtain ⟨i0, hi, hz0, hz1, hz2⟩ := info_parts (show (Try.prog.info? 5).map (fun i => (i.zero, i.size, i.bytes)) = some (some (.int .u8 0), 1, 1) by kernel_rfl)
  obtain ⟨cap, w1, hcv, hrow, hg1⟩ := run_bytes_row (P := Try.prog) w s 9 86 Try.underlying9 Try.underlying86 Try.underlying5
  have hsl : s.data.toList.length = s.size := len_eq s
  have HROW := Lib.hid hrow
  have hbw : Below w.heap.size w w1 := grown_below hg1
  have HBW := Lib.hid hbw
  have hlt1 : w.heap.size < w1.heap.size := hrow.lt
  have hzf : ((b.size : Int) == 0) = false := by rw [beq_eq_false_iff_ne]; omega
  clear hrow hg1 hbw
  go_enter Try.func68, Try.ntmps68
  go_wp2_with fail
  go_loopw [7] (fun u wr => ∃ (g cap : Nat) (k : Nat) (L : List UInt8), u = .slice (some ⟨g, 0, none⟩) L.length cap ∧ Hid (L = s.data.toList ++ List.replicate k 0) ∧ (k = 0 ∨ L.length ≤ t + b.size) ∧ L.length ≤ 4398046511104 ∧ Hid (RowB wr g cap L) ∧ w.heap.size ≤ g ∧ Hid (Below w.heap.size w wr)) (fun u _ => t + b.size - lenV u)
  case atStart => exact ⟨w.heap.size, cap, 0, s.data.toList, by rw [hsl], by show _ = _; simp, .inl rfl, by omega, HROW, Nat.le_refl _, HBW⟩
  case round =>
    obtain ⟨g, cp, k, L, rfl, hL, hk, hL2, hr, hgg, hbl⟩ := hrel
    have hglt := hr.out.lt
    have hlc : L.length ≤ cp := by obtain ⟨_, _, _, _, _, h, _⟩ := hr.out; exact h
    have hlen : L.length = s.size + k := by have := congrArg List.length hL.out; rw [List.length_append, List.length_replicate, hsl] at this; exact this
    have HLEN := Lib.hid hlen
    clear hlen
    by_cases hlt : L.length < t + b.size
    · have hra : ∀ a : Obj, RowB (wr.alloc a) g cp L := fun a => hr.out.of_eq (heap_alloc_old _ _ hglt)
      have HRA := Lib.hid hra
      clear hra
      go_wp2_with (at_builtin; refine wpList_append_byte rfl _ _ 86 rfl i0 (.int .u8 0) Try.underlying86 hi hz0 hz1 hz2 rfl g cp L rfl ?c1 ⟨wr.heap.size, 0, none⟩ 0 rfl ?c2 ?c3 ?_; rotate_right 1; intro g' cap' w5 hr5 hg5 hgr5)
      case c1 => exact HRA.out _
      case c2 => simp
      case c3 => omega
      go_roundw
      case rel =>
        refine ⟨g', cap', k + 1, L ++ [0], by simp, ?_, .inr (by simp; omega), by simp; omega, hr5, ?_, ?_⟩
        · show _ = _
          rw [hL.out, List.replicate_succ', List.append_assoc]
        · rcases hg5 with rfl | hg5
          · exact hgg
          · have := hbl.out.size; simp at hg5; omega
        · exact (hbl.out.alloc hbl.out.size _).grown hgr5 (by have := hbl.out.size; simp; omega) fun k hk => by cases hk; exact hgg
      case measure => simp [lenV]; omega
    · have hLp : L = padTo s.data.toList (t + b.size) := by
        have := HLEN.out
        rw [hL.out]
        unfold padTo
        rw [hsl]
        congr 2
        omega
      have HLP := Lib.hid hLp
      have htl : t ≤ L.length := by omega
      have htn : ¬ L.length = t := by omega
      clear hLp
      go_wp2_with (with_reducible refine wpList_copy_into (o := ⟨some 36, _, _, _, _, _⟩) rfl (.tmp 34) (.tmp 35) 86 9 rfl Try.underlying86 (by kernel_rfl) g cp t b L (cp - t) rfl rfl ?d1 ?d2 ?_; rotate_right 1; intro w6 hr6 hg6; have hcv2 := run_row_string (P := Try.prog) w6 86 9 g cp _ Try.underlying86 Try.underlying5 Try.underlying9 hr6.out; rw [show (spliceB L t b).length = L.length from (by unfold spliceB; exact length_splice _ _ _ (by rw [len_eq]; omega))] at hcv2)
      case d1 => exact hr.out
      case d2 => omega
      go_ret
      refine ⟨ret_string (by rw [HRES.out, ← HLP.out]), hbl.out.grown hg6 hbl.out.size fun k hk => by cases hk; exact hgg⟩
end Go.Proofs.Ytkecjopojnllnaa
namespace Go.Proofs.Ytkecjopojnllnaa
open Go.RowKit Go.Deep Go.Joins
set_option maxRecDepth 100000 in
set_option maxHeartbeats 1000000 in
theorem whole_any (n s : ByteArray) (l : List Wr) (v : Value) (w : World) (hr : Reads w v 2 l.length (wrCells l)) (hm : l.length ≤ 1099511627776) (hs : s.size ≤ 1099511627776) (hb : ∀ x ∈ l, x.bytes.size ≤ 1099510579200) :
    Calls Try.prog 60 #[.agg #[.string n, .string s, v]] w fun e w' => e = .returned (.string (layB s l)) ∧ Below w.heap.size w w' := by
  obtain ⟨p, cap, rfl⟩ := hr.is
  have hlay := layB_fold s l
  have HLAY := Lib.hid hlay
  clear hlay
  go_enter Try.func60, Try.ntmps60
  go_wp2_with fail
  go_loopw [3, 4] (fun u i wr => ∃ (k : Nat) (acc : ByteArray), k ≤ l.length ∧ i = .int .i64 k ∧ u = .string acc ∧ Hid (acc = (l.take k).foldl laidB s) ∧ acc.size ≤ 1099511627776 ∧ Hid (Below (w.heap.size + 1) (w.alloc (.cells #[.string n, .string s, .slice p l.length cap] 58)) wr)) (fun _ i _ => l.length - (intOf i).toNat)
  case atStart => exact ⟨0, s, Nat.zero_le _, rfl, rfl, rfl, hs, Below.refl _ _⟩
  case round =>
    obtain ⟨k, acc, hk, rfl, rfl, hacc, hsz, hbl⟩ := hrel
    have hbw : Below w.heap.size w wr := (below1 w _).trans (hbl.out.mono (by omega))
    have HBW := Lib.hid hbw
    have f2 : wr.cell? ⟨w.heap.size, 2, none⟩ = some (.slice p l.length cap) := (hbl.out.cell (p := ⟨w.heap.size, 2, none⟩) (by simp)).trans (by simp)
    have hlt2 : w.heap.size < wr.heap.size := lt_of_cell f2
    clear hbw
    by_cases hlt : k < l.length
    · obtain ⟨b1, off1, cap1, hv, _, _, hb1, c0, c1⟩ := (hr.below HBW.out).write k hlt
      obtain ⟨rfl, rfl⟩ : p = some ⟨b1, off1, none⟩ ∧ cap = cap1 := by simpa using hv
      have hbk := hb l[k] (List.getElem_mem _)
      have hcall := fun W => laid_any acc l[k].pos l[k].bytes W hsz (by omega)
      have HC := Lib.hid hcall
      clear hcall hv
      go_wp2_with fail
      go_region_held3 (fun w' => w'.cell? ⟨w.heap.size, 2, none⟩ = some (.slice (some ⟨b1, off1, none⟩) l.length cap) ∧ w'.cell? ⟨b1, off1 + k * 2, none⟩ = some (.int .i64 l[k].pos) ∧ w'.cell? ⟨b1, off1 + k * 2 + 1, none⟩ = some (.string l[k].bytes))
        (first | with_reducible exact n5 | go_keep)
        (first | (go_at_call 68; refine (HC.out _).mono ?_; rintro e w5 ⟨rfl, hb5⟩; have N5 : Below wr.heap.size wr w5 := below_then (Below.refl _ _).drew hb5; have n5 : w5.cell? ⟨w.heap.size, 2, none⟩ = some (.slice (some ⟨b1, off1, none⟩) l.length cap) ∧ w5.cell? ⟨b1, off1 + k * 2, none⟩ = some (.int .i64 l[k].pos) ∧ w5.cell? ⟨b1, off1 + k * 2 + 1, none⟩ = some (.string l[k].bytes) := ⟨below_cell N5 f2, below_cell N5 c0, below_cell N5 c1⟩))
      go_wp2_with fail
      go_round
      case rel => exact ⟨k + 1, _, by omega, by go_num, rfl, by show _ = _; rw [fold_snoc l k hlt, ← hacc.out], laidB_small _ _ hsz hbk, hbl.out.trans (N5.mono (by omega))⟩
      case measure => simp [intOf]; omega
    · obtain rfl : k = l.length := by omega
      have hfin := hacc.out
      rw [List.take_length, ← HLAY.out] at hfin
      have HFIN := Lib.hid hfin
      clear hfin
      go_wp2_with fail
      go_ret
      exact ⟨ret_string HFIN.out, HBW.out⟩
set_option maxHeartbeats 1000000 in
set_option maxRecDepth 100000 in
theorem find2_any (l : List Rw) (v : Value) (x : ByteArray) (w : World) (hr : Reads w v 3 l.length (rowCells l)) (hm : l.length ≤ 1099511627776) :
    Calls Try.prog 59 #[.agg #[v], .string x] w fun e w' => e = .returned (.int .i64 (idx (sameName x) l)) ∧ Below w.heap.size w w' := by
  obtain ⟨p, cap, rfl⟩ := hr.is
  go_enter Try.func59, Try.ntmps59
  go_wp2_with fail
  go_loopw [5] (fun i wr => ∃ k : Nat, k ≤ l.length ∧ i = .int .i64 k ∧ Hid (noneYet (sameName x) l k) ∧ Hid (Below (w.heap.size + 1) (w.alloc (.cells #[.slice p l.length cap] 24)) wr)) (fun i _ => l.length - (intOf i).toNat)
  case atStart => exact ⟨0, Nat.zero_le _, rfl, fun j _ h => absurd h (Nat.not_lt_zero _), Below.refl _ _⟩
  case round =>
    obtain ⟨k, hk, rfl, hall, hbl⟩ := hrel
    have hbw : Below w.heap.size w wr := (below1 w _).trans (hbl.out.mono (by omega))
    have HBW := Lib.hid hbw
    have f0 : wr.cell? ⟨w.heap.size, 0, none⟩ = some (.slice p l.length cap) := (hbl.out.cell (p := ⟨w.heap.size, 0, none⟩) (by simp)).trans (by simp)
    have hlt2 : w.heap.size < wr.heap.size := lt_of_cell f0
    clear hbw
    by_cases hlt : k < l.length
    · obtain ⟨b1, off1, cap1, hv, _, _, hb1, c0, c1, c2⟩ := (hr.below HBW.out).file k hlt
      obtain ⟨rfl, rfl⟩ : p = some ⟨b1, off1, none⟩ ∧ cap = cap1 := by simpa using hv
      clear hv
      rcases Bool.eq_false_or_eq_true (l[k].name.toList == x.toList) with hl | hl
      · have HL := Lib.hid hl
        go_wp2_with fail
        go_ret
        exact ⟨ret_int (idx_some hlt hall.out HL.out).symm, HBW.out⟩
      · have HL := Lib.hid hl
        go_wp2_with fail
        go_round
        case rel => exact ⟨k + 1, by omega, by go_num, noneYet_succ hall.out fun _ => HL.out, hbl⟩
        case measure => simp [intOf]; omega
    · obtain rfl : k = l.length := by omega
      go_wp2_with fail
      go_ret
      exact ⟨ret_int (idx_none hall.out).symm, HBW.out⟩
set_option maxHeartbeats 1000000 in
set_option maxRecDepth 100000 in
theorem bytes2_none (l : List Rw) (v : Value) (x : ByteArray) (w : World) (hr : Reads w v 3 l.length (rowCells l)) (hm : l.length ≤ 1099511627776) (hn : idx (sameName x) l = -1) :
    Calls Try.prog 39 #[.agg #[v], .string x] w fun e w' => e = .returned (.tuple #[.string ⟨#[]⟩, .int .i64 20]) ∧ Below w.heap.size w w' := by
  go_enter Try.func39, Try.ntmps39
  go_wp2_with fail
  refine (find2_any l v x _ (hr.below (below1 w _)) hm).mono ?_
  rintro e w1 ⟨rfl, hb⟩
  rw [hn]
  go_wp2_with fail
  go_ret2
  exact ⟨rfl, below_then (below1 w _) hb⟩
set_option maxHeartbeats 1000000 in
set_option maxRecDepth 100000 in
theorem bytes2_some (l : List Rw) (v : Value) (x : ByteArray) (w : World) (k : Nat) (hk : k < l.length) (hr : Reads w v 3 l.length (rowCells l)) (ho : Opens w l) (hm : l.length ≤ 1099511627776)
    (hs : l[k].safe.size ≤ 1099511627776) (hol : l[k].opens.length ≤ 1099511627776) (hb : ∀ x ∈ l[k].opens, x.bytes.size ≤ 1099510579200) (hn : idx (sameName x) l = k) :
    Calls Try.prog 39 #[.agg #[v], .string x] w fun e w' => e = .returned (.tuple #[.string (layB l[k].safe l[k].opens), .int .i64 0]) ∧ Below w.heap.size w w' := by
  have HOP := Lib.hid (ho l[k] (List.getElem_mem _))
  have HB := Lib.hid hb
  clear hb ho
  go_enter Try.func39, Try.ntmps39
  go_wp2_with fail
  refine (find2_any l v x _ (hr.below (below1 w _)) hm).mono ?_
  rintro e w1 ⟨rfl, hb⟩
  rw [hn]
  have r0 := hb.cell (p := ⟨w.heap.size, 0, none⟩) (by simp)
  have hbw := below_then (below1 w _) hb
  obtain ⟨b, off, cap, hv, _, _, hb1, c0, c1, c2⟩ := (hr.below hbw).file k hk
  subst hv
  have HBB := Lib.hid hb
  clear hb hn
  go_wp2_with fail
  refine (whole_any _ _ _ _ _ (HOP.out.below hbw) hol hs HB.out).mono ?_
  rintro e w2 ⟨rfl, hb2⟩
  go_wp2_with fail
  go_ret2
  exact ⟨rfl, below_then hbw hb2⟩
set_option maxRecDepth 100000 in
set_option maxHeartbeats 1000000 in
theorem survived_any (n s : ByteArray) (l : List Wr) (v : Value) (whole : List Bool) (wv : Value) (torn nb : Int) (w : World) (hr : Reads w v 2 l.length (wrCells l)) (hm : l.length ≤ 1099511627776)
    (hw : Reads w wv 1 whole.length (boolCells whole)) (hs : s.size ≤ 1099511627776) (hb : ∀ x ∈ l, x.bytes.size ≤ 1099510579200) :
    Calls Try.prog 48 #[.agg #[.string n, .string s, v], .agg #[wv, .int .i64 torn, .int .i64 nb]] w fun e w' => e = .returned (.string (layB s (surv whole torn nb 0 l))) ∧ Below w.heap.size w w' := by
  obtain ⟨p, cap, rfl⟩ := hr.is
  obtain ⟨p2, cap2, rfl⟩ := hw.is
  obtain ⟨R, hR⟩ : ∃ R, R = layB s (surv whole torn nb 0 l) := ⟨_, rfl⟩
  have hst : (surv whole torn nb 0 (l.drop 0)).foldl laidB s = R := by rw [hR, layB_fold]; rfl
  rw [← hR]
  have HST := Lib.hid hst
  clear hst hR
  go_enter Try.func48, Try.ntmps48
  go_wp2_with fail
  go_loopw [5, 6] (fun u i wr => ∃ (k : Nat) (acc : ByteArray), k ≤ l.length ∧ i = .int .i64 k ∧ u = .string acc ∧ Hid ((surv whole torn nb k (l.drop k)).foldl laidB acc = R) ∧ acc.size ≤ 1099511627776 ∧
    Hid (Below (w.heap.size + 2) ((w.alloc (.cells #[.string n, .string s, .slice p l.length cap] 58)).alloc (.cells #[.slice p2 whole.length cap2, .int .i64 torn, .int .i64 nb] 91)) wr)) (fun _ i _ => l.length - (intOf i).toNat)
  case atStart => exact ⟨0, s, Nat.zero_le _, rfl, rfl, HST, hs, Below.refl _ _⟩
  case round =>
    obtain ⟨k, acc, hk, rfl, rfl, hacc, hsz, hbl⟩ := hrel
    have hbw : Below w.heap.size w wr := (below2 w _ _).trans (hbl.out.mono (by omega))
    have HBW := Lib.hid hbw
    have f2 : wr.cell? ⟨w.heap.size, 2, none⟩ = some (.slice p l.length cap) := (hbl.out.cell (p := ⟨w.heap.size, 2, none⟩) (by simp)).trans (by simp)
    have g0 : wr.cell? ⟨w.heap.size + 1, 0, none⟩ = some (.slice p2 whole.length cap2) := (hbl.out.cell (p := ⟨w.heap.size + 1, 0, none⟩) (by simp)).trans (by simp)
    have g1 : wr.cell? ⟨w.heap.size + 1, 1, none⟩ = some (.int .i64 torn) := (hbl.out.cell (p := ⟨w.heap.size + 1, 1, none⟩) (by simp)).trans (by simp)
    have g2 : wr.cell? ⟨w.heap.size + 1, 2, none⟩ = some (.int .i64 nb) := (hbl.out.cell (p := ⟨w.heap.size + 1, 2, none⟩) (by simp)).trans (by simp)
    have hlt1 : w.heap.size < wr.heap.size := lt_of_cell f2
    have hlt2 : w.heap.size + 1 < wr.heap.size := lt_of_cell g0
    clear hbw
    by_cases hlt : k < l.length
    · obtain ⟨b1, off1, cap1, hv, _, _, hb1, c0, c1⟩ := (hr.below HBW.out).write k hlt
      obtain ⟨rfl, rfl⟩ : p = some ⟨b1, off1, none⟩ ∧ cap = cap1 := by simpa using hv
      have hbk := hb l[k] (List.getElem_mem _)
      have hsu := hacc.out
      rw [List.drop_eq_getElem_cons hlt, surv_cons] at hsu
      have HSU := Lib.hid hsu
      have HRR := Lib.hid hr
      clear hv hsu hacc hr
      by_cases ht : (k : Int) = torn
      · have hb : ((k : Int) == torn) = true := by simpa using ht
        have hsu := HSU.out
        rw [if_pos ht] at hsu
        have HSU2 := Lib.hid (show laidB acc ⟨l[k].pos, cutTo nb l[k].bytes⟩ = R from hsu)
        have HT := Lib.hid ht
        clear ht hsu HSU
        by_cases hgt : (l[k].bytes.size : Int) < nb
        · by_cases hz : l[k].bytes.size = 0
          · have hfin := HSU2.out
            rw [cut_empty (.inr hz)] at hfin
            have HF := Lib.hid hfin
            have hp : decide ((0 : Int) < (l[k].bytes.size : Int)) = false := by simp [hz]
            clear hfin HSU2
            go_wp2_with fail
            go_ret
            exact ⟨ret_string HF.out, below_then HBW.out (below1 _ _)⟩
          · have hfin := HSU2.out
            rw [cut_all hgt] at hfin
            have HF := Lib.hid hfin
            have hp : (0 : Int) < (l[k].bytes.size : Int) := by omega
            have hcall := fun W => laid_any acc l[k].pos l[k].bytes W hsz (by omega)
            have HC := Lib.hid hcall
            clear hfin HSU2 hcall
            go_wp2_with fail
            go_region_held3 (fun w' => w'.cell? ⟨wr.heap.size, 0, none⟩ = some (.int .i64 l[k].pos) ∧ w'.cell? ⟨wr.heap.size, 1, none⟩ = some (.string l[k].bytes))
              (first | with_reducible exact n5 | go_keep)
              (first | (go_at_call 68; refine (HC.out _).mono ?_; rintro e w5 ⟨rfl, hb5⟩; have N5 : Below (wr.alloc (.cells #[.int .i64 l[k].pos, .string l[k].bytes] 76)).heap.size (wr.alloc (.cells #[.int .i64 l[k].pos, .string l[k].bytes] 76)) w5 := below_then (Below.refl _ _).drew hb5; have n5 : w5.cell? ⟨wr.heap.size, 0, none⟩ = some (.int .i64 l[k].pos) ∧ w5.cell? ⟨wr.heap.size, 1, none⟩ = some (.string l[k].bytes) := ⟨below_cell N5 (by simp), below_cell N5 (by simp)⟩))
            go_wp2_with fail
            go_ret
            exact ⟨ret_string HF.out, below_then HBW.out (below_then (below1 _ _) N5)⟩
        · by_cases hp : 0 < nb
          · obtain ⟨t, rfl⟩ := Int.eq_ofNat_of_zero_le (show 0 ≤ nb by omega)
            have hfin := HSU2.out
            rw [cut_some hgt] at hfin
            have HF := Lib.hid hfin
            have htl : t ≤ l[k].bytes.size := by omega
            have hcall := fun W => laid_any acc l[k].pos (l[k].bytes.extract 0 t) W hsz (by rw [ByteArray.size_extract]; omega)
            have HC := Lib.hid hcall
            clear hfin HSU2 hcall
            go_wp2_with fail
            go_region_held3 (fun w' => w'.cell? ⟨wr.heap.size, 0, none⟩ = some (.int .i64 l[k].pos) ∧ w'.cell? ⟨wr.heap.size, 1, none⟩ = some (.string l[k].bytes))
              (first | with_reducible exact n5 | go_keep)
              (first | (go_at_call 68; refine (HC.out _).mono ?_; rintro e w5 ⟨rfl, hb5⟩; have N5 : Below (wr.alloc (.cells #[.int .i64 l[k].pos, .string l[k].bytes] 76)).heap.size (wr.alloc (.cells #[.int .i64 l[k].pos, .string l[k].bytes] 76)) w5 := below_then (Below.refl _ _).drew hb5; have n5 : w5.cell? ⟨wr.heap.size, 0, none⟩ = some (.int .i64 l[k].pos) ∧ w5.cell? ⟨wr.heap.size, 1, none⟩ = some (.string l[k].bytes) := ⟨below_cell N5 (by simp), below_cell N5 (by simp)⟩))
            go_wp2_with fail
            go_ret
            exact ⟨ret_string HF.out, below_then HBW.out (below_then (below1 _ _) N5)⟩
          · have hfin := HSU2.out
            rw [cut_empty (.inl (by omega))] at hfin
            have HF := Lib.hid hfin
            clear hfin HSU2
            go_wp2_with fail
            go_ret
            exact ⟨ret_string HF.out, below_then HBW.out (below1 _ _)⟩
      · have hb : ((k : Int) == torn) = false := by simpa using ht
        have hsu := HSU.out
        rw [if_neg ht] at hsu
        have HSU2 := Lib.hid hsu
        have HT := Lib.hid ht
        clear ht hsu HSU
        by_cases hkw : k < whole.length
        · obtain ⟨b2, off2, cap3, hv, _, _, hb2, hcw⟩ := (hw.below HBW.out).at (by omega)
          obtain ⟨rfl, rfl⟩ : p2 = some ⟨b2, off2, none⟩ ∧ cap2 = cap3 := by simpa using hv
          have cw := hcw k (.bool whole[k]) (by simp [boolCells, hkw])
          clear hcw hv
          rcases Bool.eq_false_or_eq_true whole[k] with hwk | hwk
          · rw [hwk] at cw
            have hsu := HSU2.out
            rw [if_pos (show whole.getD k false = true by simp [hkw, hwk])] at hsu
            have HSU3 := Lib.hid hsu
            have hcall := fun W => laid_any acc l[k].pos l[k].bytes W hsz (by omega)
            have HC := Lib.hid hcall
            clear hsu HSU2 hcall
            go_wp2_with (go_at_call 68; refine (HC.out _).mono ?_; rintro e w5 ⟨rfl, hb5⟩)
            go_round
            case rel => exact ⟨k + 1, _, by omega, by go_num, rfl, HSU3.out, laidB_small _ _ hsz hbk, hbl.out.trans ((below_then (below1 wr _) hb5).mono (by omega))⟩
            case measure => simp [intOf]; omega
          · rw [hwk] at cw
            have hsu := HSU2.out
            rw [if_neg (show ¬ whole.getD k false = true by simp [hkw, hwk])] at hsu
            have HSU3 := Lib.hid hsu
            clear hsu HSU2
            go_wp2_with fail
            go_round
            case rel => exact ⟨k + 1, acc, by omega, by go_num, rfl, HSU3.out, hsz, hbl.out.trans ((below1 wr _).mono (by omega))⟩
            case measure => simp [intOf]; omega
        · have hsu := HSU2.out
          rw [if_neg (show ¬ whole.getD k false = true by simp [hkw])] at hsu
          have HSU3 := Lib.hid hsu
          clear hsu HSU2
          go_wp2_with fail
          go_round
          case rel => exact ⟨k + 1, acc, by omega, by go_num, rfl, HSU3.out, hsz, hbl.out.trans ((below1 wr _).mono (by omega))⟩
          case measure => simp [intOf]; omega
    · obtain rfl : k = l.length := by omega
      have hfin := hacc.out
      rw [List.drop_length, surv_nil] at hfin
      have HF := Lib.hid (show acc = R from hfin)
      clear hfin hacc
      go_wp2_with fail
      go_ret
      exact ⟨ret_string HF.out, HBW.out⟩
end Go.Proofs.Ytkecjopojnllnaa
namespace Go.Proofs.Ytkecjopojnllnaa
open Go.RowKit Go.Deep Go.Joins
set_option maxRecDepth 100000 in
set_option maxHeartbeats 1000000 in
theorem copy2_any (l : List Rw) (v : Value) (w : World) (hr : Reads w v 3 l.length (rowCells l)) (ho : Opens w l) (hok : ∀ r ∈ l, r.opens.length ≤ 1099511627776) (hm : l.length ≤ 1099511627776) :
    Calls Try.prog 10 #[.agg #[v]] w fun e w' => ∃ v' l', e = .returned (.agg #[v']) ∧ l'.map core = l.map core ∧ OwnR w' w.heap.size v' l' ∧ Below w.heap.size w w' := by
  obtain ⟨p, cap, rfl⟩ := hr.is
  obtain ⟨i0, hi, hz0, hz1, hz2⟩ := info_parts (show (Try.prog.info? 58).map (fun i => (i.zero, i.size, i.bytes)) = some (some (.agg #[.string .empty, .string .empty, .slice none 0 0]), 3, 56) by kernel_rfl)
  obtain ⟨i1, hj, hy0, hy1, hy2⟩ := info_parts (show (Try.prog.info? 76).map (fun i => (i.zero, i.size, i.bytes)) = some (some (.agg #[.int .i64 0, .string .empty]), 2, 24) by kernel_rfl)
  go_enter Try.func10, Try.ntmps10
  go_wp2_with fail
  generalize hw0 : ((w.alloc (Obj.cells #[.slice p l.length cap] 24)).alloc (Obj.cells #[.slice none 0 0] 24)).alloc (Obj.cells #[.slice none 0 0] 24) = w0
  have hs0 : w0.heap.size = w.heap.size + 3 := by rw [← hw0]; simp
  have hb0 : Below w.heap.size w w0 := by
    rw [← hw0]
    exact (below2 w _ _).alloc (by simp; omega) _
  have hd0 : VarAt w0 w.heap.size (.slice p l.length cap) := by rw [← hw0]; exact ((VarAt.new _ _).old _).old _
  have hr0 : VarAt w0 (w.heap.size + 1) (.slice none 0 0) := by rw [← hw0]; exact (VarAt.new2 _ _ _).old _
  have ho0 : VarAt w0 (w.heap.size + 1 + 1) (.slice none 0 0) := by
    have h := VarAt.new ((w.alloc (Obj.cells #[.slice p l.length cap] 24)).alloc (Obj.cells #[.slice none 0 0] 24)) (.slice none 0 0)
    rw [hw0] at h
    simpa using h
  have HB0 := Lib.hid hb0
  have HD0 := Lib.hid hd0
  have HR0 := Lib.hid hr0
  have HO0 := Lib.hid ho0
  clear hw0 hb0 hd0 hr0 ho0
  go_wp2_with fail
  go_loopw [4] (fun i wr => ∃ (k : Nat) (u : Value) (d : List Rw), k ≤ l.length ∧ i = .int .i64 k ∧ Hid (d.length = k) ∧ Hid (d.map core = (l.take k).map core) ∧ Hid (VarAt wr (w.heap.size + 1 + 1) u) ∧ Hid (OwnR wr (w.heap.size + 3) u d) ∧ Hid (Below (w.heap.size + 1 + 1) w0 wr)) (fun i _ => l.length - (intOf i).toNat)
  case atStart => exact ⟨0, _, [], Nat.zero_le _, rfl, rfl, rfl, HO0, ⟨World.ownsRow_nil _ _ _ _, fun r hr => by cases hr⟩, Below.refl _ _⟩
  case round =>
    obtain ⟨k, u, d, hk, rfl, hdl, hdc, hu, hown, hbl⟩ := hrel
    obtain ⟨q, qc, rfl⟩ := owns_shape hown.out.1
    have HBW := Lib.hid (HB0.out.trans (hbl.out.mono (by omega)))
    have hD : VarAt wr w.heap.size (.slice p l.length cap) := (hbl.out.block _ (by omega)).trans HD0.out
    have hR : VarAt wr (w.heap.size + 1) (.slice none 0 0) := (hbl.out.block _ (by omega)).trans HR0.out
    have f0 := hD.c
    have f1 := hR.c
    have z1 := hR.f
    have f2 := hu.out.c
    have z2 := hu.out.f
    have l0 := hD.lt
    have l1 := hR.lt
    have l2 := hu.out.lt
    clear hD hR
    by_cases hlt : k < l.length
    · obtain ⟨b1, off1, cap1, hv, _, _, hb1, c0, c1, c2⟩ := (hr.below HBW.out).file k hlt
      obtain ⟨rfl, rfl⟩ : p = some ⟨b1, off1, none⟩ ∧ cap = cap1 := by simpa using hv
      have hop := (ho l[k] (List.getElem_mem _)).below HBW.out
      obtain ⟨p3, cap3, hov⟩ := hop.is
      rw [hov] at c2 hop
      have HOP := Lib.hid hop
      have hol := hok l[k] (List.getElem_mem _)
      clear hv hop hov
      go_wp2_with (first | (at_builtin; refine wpList_append_first rfl _ _ 56 rfl (wr.heap.size + 1) 76 i1 (.agg #[.int .i64 0, .string .empty]) 2 24 Try.underlying56 hj hy0 hy1 hy2 rfl (by decide) (wr.heap.size + 1) rfl ?c1 _ l[k].opens.length (wrCells l[k].opens) rfl ?c2 (wr_one _) ?c3 ?c4 ?c5 ?_; rotate_right 1; intro q2 qc2 w5 hown5 hg5; obtain ⟨x0, hcp⟩ := copy_at hg5 hown5.out; have HCP := Lib.hid hcp; have e0 : w5.cell? ⟨wr.heap.size, 0, none⟩ = some (.string l[k].name) := (by simp [World.cell?, x0]); have e1 : w5.cell? ⟨wr.heap.size, 1, none⟩ = some (.string l[k].safe) := (by simp [World.cell?, x0]); have e2 : w5.cell? ⟨wr.heap.size, 2, none⟩ = some (.slice p3 l[k].opens.length cap3) := (by simp [World.cell?, x0]); have e3 : w5.frozen? ⟨wr.heap.size, 2, none⟩ = false := (by simp [World.frozen?, x0]); have e4 := (Array.getElem?_eq_some_iff.1 x0).1; have U5 : VarAt w5 (w.heap.size + 1 + 1) (.slice q d.length qc) := (hg5.block _ (by simp; omega) (by simp; omega)).trans ((((hu.out).old _).old _)); have u0 := U5.c; have u1 := U5.f; have u2 := U5.lt; clear x0 hcp hown5) | (at_builtin; refine wpList_append_own _ rfl _ _ 22 rfl (w.heap.size + 3) 58 i0 (.agg #[.string .empty, .string .empty, .slice none 0 0]) 3 56 Try.underlying22 hi hz0 hz1 hz2 rfl (by decide) _ d.length (rowCells d) rfl ?g1 ⟨w5.heap.size, 0, none⟩ 1 1 [.string l[k].name, .string l[k].safe, .slice q2 l[k].opens.length qc2] rfl rfl ?g2 ?g3 ?g4 ?g5 ?g6 ?_; rotate_right 1; intro v6 w6 hown6 hg6 _; obtain ⟨q6, qc6, rfl⟩ := owns_shape hown6; have HO6 := Lib.hid hown6; have V6 := copy_var HCP.out hown.out hu.out hg6; have v0 := V6.c; have v1 := V6.f; have v2 := V6.lt; clear hown6))
      case c1 => exact owns_empty (by have := heap_alloc_new (wr.alloc (.cells #[.string l[k].name, .string l[k].safe, .slice p3 l[k].opens.length cap3] 58)) (.cells #[] 76); simpa using this) (Nat.le_refl _)
      case c2 => exact HOP.out.below (below2 wr _ _)
      case c3 => unfold maxLen; omega
      case c4 => omega
      case c5 => simp
      case g1 => exact owns_below (owns_below hown.out.1 HCP.out.below) (below1 _ _)
      case g2 =>
        intro j u hu
        rw [add_lit, Nat.zero_add, cell_of_row _ _ _ _ 58 _ new_cells]
        simpa using hu
      case g3 =>
        intro u hu
        simp at hu
        rcases hu with rfl | rfl | rfl <;> rfl
      case g4 => have := hdl.out; unfold maxLen; omega
      case g5 => have := hdl.out; omega
      case g6 => have := HCP.out.below.size; have := hbl.out.size; simp at *; omega
      go_roundw
      case rel =>
        have hbs := hbl.out.size
        obtain ⟨k1, k2, k3⟩ := copy_next HCP.out hown.out hu.out (Nat.le_succ _) (by omega) hg6 HO6.out
        refine ⟨k + 1, _, d ++ [Rw.mk l[k].name l[k].safe (.slice q2 l[k].opens.length qc2) l[k].opens], by omega, by go_num, ?_, ?_, k2, k1, hbl.out.trans k3⟩
        · show _ = _; simp [hdl.out]
        · show _ = _
          rw [List.map_append, hdc.out, List.take_succ_eq_append_getElem hlt, List.map_append]; rfl
      case measure => simp [intOf]; omega
    · obtain rfl : k = l.length := by omega
      go_wp2_with fail
      refine bodyPost_ret (v := .agg #[.slice q d.length qc]) (by simp [results, Try.results10, go_sem, f1]) rfl
        ⟨_, d, rfl, by rw [hdc.out, List.take_length], (hown.out.mono (by omega)).set (u := .slice none 0 0) ?_ _, HBW.out.setCell (by simp) _⟩
      exact (hbl.out.block _ (by omega)).trans HR0.out
end Go.Proofs.Ytkecjopojnllnaa
namespace Go.Proofs.Ytkecjopojnllnaa
open Go.RowKit Go.Deep Go.Joins
theorem reads_nil (w : World) (size : Nat) : Reads w (.slice none 0 0) size 0 [] := ⟨by simp, .inl ⟨rfl, rfl⟩⟩
set_option maxRecDepth 100000 in
set_option maxHeartbeats 1000000 in
theorem crash2_any (l : List Rw) (v : Value) (fs : List Ft) (fv : Value) (w : World) (hr : Reads w v 3 l.length (rowCells l)) (ho : Opens w l) (hf : Reads w fv 3 fs.length (ftCells fs)) (hwh : Wholes w fs)
    (hok : ∀ r ∈ l, r.opens.length ≤ 1099511627776 ∧ r.safe.size ≤ 1099511627776 ∧ ∀ x ∈ r.opens, x.bytes.size ≤ 1099510579200) (hm : l.length ≤ 1099511627776) (hmf : fs.length ≤ 9223372036854775807) :
    Calls Try.prog 28 #[.agg #[v], fv] w fun e w' => ∃ v' l', e = .returned (.agg #[v']) ∧ l'.map core = (crashRows l fs).map core ∧ OwnR w' w.heap.size v' l' ∧ Below w.heap.size w w' := by
  obtain ⟨p2, cap2, rfl⟩ := hf.is
  go_enter Try.func28, Try.ntmps28
  go_wp2_with fail
  refine (copy2_any l v _ (hr.below (below2 w _ _)) (ho.below (below2 w _ _)) (fun r hr => (hok r hr).1) hm).mono ?_
  rintro e w2 ⟨v1, l1, rfl, hc1, hd1, hb2⟩
  obtain ⟨q, qc, rfl⟩ := owns_shape hd1.1
  have hb02 : Below w.heap.size w w2 := below_then (below2 w _ _) hb2
  have d2 : VarAt w2 w.heap.size v := ((VarAt.new w v).old _).keep hb2
  have r2 : VarAt w2 (w.heap.size + 1) (.slice none 0 0) := (VarAt.new2 w _ _).keep hb2
  have hlen : l1.length = l.length := by simpa using congrArg List.length hc1
  have hd1' : OwnR w2 (w.heap.size + 2) (.slice q l1.length qc) l1 := by simpa using hd1
  have hok1 : ∀ r ∈ l1, r.opens.length ≤ 1099511627776 ∧ r.safe.size ≤ 1099511627776 ∧ ∀ x ∈ r.opens, x.bytes.size ≤ 1099510579200 := fun r hr => by
    have h1 : core r ∈ l.map core := hc1 ▸ List.mem_map_of_mem hr
    obtain ⟨r0, h2, h3⟩ := List.mem_map.1 h1
    have h4 := hok r0 h2
    unfold core at h3
    simp only [Fl.mk.injEq] at h3
    rw [← h3.2.1, ← h3.2.2]
    exact h4
  have f0 := d2.c
  have f1 := r2.c
  have fz := r2.f
  have HB2 := Lib.hid hb02
  have HD1 := Lib.hid hd1'
  have HC1 := Lib.hid hc1
  have HOK1 := Lib.hid hok1
  have HR2 := Lib.hid r2
  have l2 := r2.lt
  have hm1 : l1.length ≤ 1099511627776 := by omega
  clear hb2 hb02 hd1 hd1' hc1 d2 r2 hok1 hok hlen hm
  go_wp2_with fail
  generalize hwo : w2.alloc (Obj.cells #[.slice q l1.length qc] 24) = wo
  have hbo : Below w2.heap.size w2 wo := hwo ▸ below1 w2 _
  have Z0 : VarAt wo w2.heap.size (.slice q l1.length qc) := hwo ▸ VarAt.new w2 _
  have HBO := Lib.hid (below_then HB2.out hbo)
  have HDO := Lib.hid (HD1.out.below hbo)
  have HRO := Lib.hid (HR2.out.keep hbo)
  have HZ0 := Lib.hid Z0
  have hlo : w2.heap.size < wo.heap.size := Z0.lt
  clear hwo hbo HD1 HB2 HR2 f0 f1 fz Z0
  go_wp2_with fail
  go_loopw [6] (fun i wr => ∃ k : Nat, k ≤ l1.length ∧ i = .int .i64 k ∧ Hid (wr.ownsRow (w.heap.size + 2) 58 3 (.slice q l1.length qc) l1.length (rowCells ((crashRows l1 fs).take k ++ l1.drop k))) ∧ Hid (∀ r ∈ l1, wr.ownsRow (w.heap.size + 2) 76 2 r.ov r.opens.length (wrCells r.opens)) ∧
    Hid (VarAt wr w2.heap.size (.slice q l1.length qc)) ∧ Hid (Below (w.heap.size + 2) wo wr)) (fun i _ => l1.length - (intOf i).toNat)
  case atStart => exact ⟨0, Nat.zero_le _, rfl, HDO.out.1, HDO.out.2, HZ0, Below.refl _ _⟩
  case round =>
    obtain ⟨k, hk, rfl, hown, hops, hz, hbl⟩ := hrel
    have HBW := Lib.hid (HBO.out.trans (hbl.out.mono (by omega)))
    have hR : VarAt wr (w.heap.size + 1) (.slice none 0 0) := (hbl.out.block _ (by omega)).trans HRO.out
    have z0 := hz.out.c
    have z1 := hz.out.lt
    by_cases hlt : k < l1.length
    · have hlc : (crashRows l1 fs).length = l1.length := crashRows_length l1 fs
      obtain ⟨g, hq, hg1, hg2, c0, c1, c2, fzz⟩ := owns_file hown.out k (by simp [hlc]; omega) (by omega)
      subst hq
      have hgz : g ≠ w2.heap.size := fun e => not_at hown.out hz.out (by decide) (by rw [← e]; rfl)
      have hgt : g ≠ wr.heap.size := by omega
      rw [mix_at _ _ _ hlc hlt] at c0 c1 c2
      obtain ⟨hk1, hk2, hk3⟩ := HOK1.out l1[k] (List.getElem_mem _)
      have hop := reads_of_owns (hops.out l1[k] (List.getElem_mem _))
      obtain ⟨p3, cap3, hov⟩ := hop.is
      rw [hov] at c2 hop
      have HOP := Lib.hid hop
      have HK3 := Lib.hid hk3
      have HLC := Lib.hid hlc
      clear hov hop hk3 hlc
      have y1 := fzz (k * 3 + 1)
      have y2 := fzz (k * 3 + 2)
      clear fzz
      by_cases hkf : k < fs.length
      · obtain ⟨b2, off2, cap4, hv, _, _, hb2, d0, d1, d2⟩ := (hf.below HBW.out).fate k hkf
        obtain ⟨rfl, rfl⟩ : p2 = some ⟨b2, off2, none⟩ ∧ cap2 = cap4 := by simpa using hv
        have hwk := (hwh fs[k] (List.getElem_mem _)).below HBW.out
        obtain ⟨p4, cap5, hwv⟩ := hwk.is
        rw [hwv] at d0 hwk
        have hcall : ∀ W, Below wr.heap.size wr W → Calls Try.prog 48 #[.agg #[.string l1[k].name, .string l1[k].safe, .slice p3 l1[k].opens.length cap3], .agg #[.slice p4 fs[k].whole.length cap5, .int .i64 fs[k].torn, .int .i64 fs[k].nb]] W fun e w' =>
            e = .returned (.string (layB l1[k].safe (surv fs[k].whole fs[k].torn fs[k].nb 0 l1[k].opens))) ∧ Below wr.heap.size wr w' ∧ Below W.heap.size W w' := fun W hW =>
          (survived_any _ _ _ _ _ _ _ _ W (HOP.out.below hW) hk1 (hwk.below hW) hk2 HK3.out).mono fun e w' ⟨h1, h2⟩ => ⟨h1, below_then hW h2, h2⟩
        have HC := Lib.hid hcall
        clear hwv hwk hv hcall
        have hS : ∀ w' : World, Below (wr.alloc (.cells #[.slice p4 fs[k].whole.length cap5, .int .i64 fs[k].torn, .int .i64 fs[k].nb] 91)).heap.size (wr.alloc (.cells #[.slice p4 fs[k].whole.length cap5, .int .i64 fs[k].torn, .int .i64 fs[k].nb] 91)) w' → (fun w' => w'.cell? ⟨w2.heap.size, 0, none⟩ = some (.slice (some ⟨g, 0, none⟩) l1.length qc) ∧ w'.cell? ⟨wr.heap.size, 0, none⟩ = some (.slice p4 fs[k].whole.length cap5) ∧ w'.cell? ⟨wr.heap.size, 1, none⟩ = some (.int .i64 fs[k].torn) ∧ w'.cell? ⟨wr.heap.size, 2, none⟩ = some (.int .i64 fs[k].nb)) w' := fun w' h => ⟨below_cell h (below_cell (below1 wr _) z0), below_cell h (by simp), below_cell h (by simp), below_cell h (by simp)⟩
        have hS1 : ∀ (w' : World) (j : Nat) (x : Value), (fun w' => w'.cell? ⟨w2.heap.size, 0, none⟩ = some (.slice (some ⟨g, 0, none⟩) l1.length qc) ∧ w'.cell? ⟨wr.heap.size, 0, none⟩ = some (.slice p4 fs[k].whole.length cap5) ∧ w'.cell? ⟨wr.heap.size, 1, none⟩ = some (.int .i64 fs[k].torn) ∧ w'.cell? ⟨wr.heap.size, 2, none⟩ = some (.int .i64 fs[k].nb)) w' → (fun w' => w'.cell? ⟨w2.heap.size, 0, none⟩ = some (.slice (some ⟨g, 0, none⟩) l1.length qc) ∧ w'.cell? ⟨wr.heap.size, 0, none⟩ = some (.slice p4 fs[k].whole.length cap5) ∧ w'.cell? ⟨wr.heap.size, 1, none⟩ = some (.int .i64 fs[k].torn) ∧ w'.cell? ⟨wr.heap.size, 2, none⟩ = some (.int .i64 fs[k].nb)) (w'.setCell ⟨g, j, none⟩ x) := fun w' j x h => by
          obtain ⟨h1, h2, h3, h4⟩ := h
          exact ⟨(World.cell?_setCell_far _ _ _ _ hgz).trans h1, (World.cell?_setCell_far _ _ _ _ hgt).trans h2, (World.cell?_setCell_far _ _ _ _ hgt).trans h3, (World.cell?_setCell_far _ _ _ _ hgt).trans h4⟩
        have HSS := Lib.hid hS
        have HS1 := Lib.hid hS1
        clear hS hS1
        go_wp2_with fail
        refine wp_region_noPanic ?_
        refine wp_region_held_drew (S := (fun w' => w'.cell? ⟨w2.heap.size, 0, none⟩ = some (.slice (some ⟨g, 0, none⟩) l1.length qc) ∧ w'.cell? ⟨wr.heap.size, 0, none⟩ = some (.slice p4 fs[k].whole.length cap5) ∧ w'.cell? ⟨wr.heap.size, 1, none⟩ = some (.int .i64 fs[k].torn) ∧ w'.cell? ⟨wr.heap.size, 2, none⟩ = some (.int .i64 fs[k].nb))) (by kernel_rfl) ?_ (fun hHeld => ?_)
        · exact HSS.out _ (Below.refl _ _).drew
        refine wpAnyH_take (i := 0) (oi := ⟨some 26, .fieldAddr 24 (.tmp 5) 0, 0, _, _, none⟩) (v := ?_) rfl (by kernel_rfl) (by kernel_rfl) (by kernel_rfl) (fun _ _ _ h => h) (Or.inl ⟨by rfl, ?_⟩) (by assumption) ?_
        rotate_left
        · (intro w hSw; (try dsimp only at hSw); go_simp; try with_reducible rfl)
        try simp only [Act.put, List.setIfInBounds_toArray, List.set_cons_zero, List.set_cons_succ]
        refine wpAnyH_take (i := 1) (oi := ⟨some 27, .load 22 (.tmp 26), 22, _, _, none⟩) (v := ?_) rfl (by kernel_rfl) (by kernel_rfl) (by kernel_rfl) (fun _ _ _ h => h) (Or.inl ⟨by rfl, ?_⟩) (by assumption) ?_
        rotate_left
        · (intro w hSw; (try dsimp only at hSw); go_simp; try with_reducible rfl)
        try simp only [Act.put, List.setIfInBounds_toArray, List.set_cons_zero, List.set_cons_succ]
        refine wpAnyH_take (i := 2) (oi := ⟨some 28, .move (.tmp 6), 3, _, _, none⟩) (v := ?_) rfl (by kernel_rfl) (by kernel_rfl) (by kernel_rfl) (fun _ _ _ h => h) (Or.inl ⟨by rfl, ?_⟩) (by assumption) ?_
        rotate_left
        · (intro w hSw; (try dsimp only at hSw); go_simp; try with_reducible rfl)
        try simp only [Act.put, List.setIfInBounds_toArray, List.set_cons_zero, List.set_cons_succ]
        refine wpAnyH_take (i := 3) (oi := ⟨some 29, .fieldAddr 24 (.tmp 5) 0, 0, _, _, none⟩) (v := ?_) rfl (by kernel_rfl) (by kernel_rfl) (by kernel_rfl) (fun _ _ _ h => h) (Or.inl ⟨by rfl, ?_⟩) (by assumption) ?_
        rotate_left
        · (intro w hSw; (try dsimp only at hSw); go_simp; try with_reducible rfl)
        try simp only [Act.put, List.setIfInBounds_toArray, List.set_cons_zero, List.set_cons_succ]
        refine wpAnyH_take (i := 4) (oi := ⟨some 30, .load 22 (.tmp 29), 22, _, _, none⟩) (v := ?_) rfl (by kernel_rfl) (by kernel_rfl) (by kernel_rfl) (fun _ _ _ h => h) (Or.inl ⟨by rfl, ?_⟩) (by assumption) ?_
        rotate_left
        · (intro w hSw; (try dsimp only at hSw); go_simp; try with_reducible rfl)
        try simp only [Act.put, List.setIfInBounds_toArray, List.set_cons_zero, List.set_cons_succ]
        refine wpAnyH_take (i := 5) (oi := ⟨some 31, .move (.tmp 6), 3, _, _, none⟩) (v := ?_) rfl (by kernel_rfl) (by kernel_rfl) (by kernel_rfl) (fun _ _ _ h => h) (Or.inl ⟨by rfl, ?_⟩) (by assumption) ?_
        rotate_left
        · (intro w hSw; (try dsimp only at hSw); go_simp; try with_reducible rfl)
        try simp only [Act.put, List.setIfInBounds_toArray, List.set_cons_zero, List.set_cons_succ]
        refine wpAnyH_take (i := 6) (oi := ⟨some 32, .fieldAddr 24 (.tmp 5) 0, 0, _, _, none⟩) (v := ?_) rfl (by kernel_rfl) (by kernel_rfl) (by kernel_rfl) (fun _ _ _ h => h) (Or.inl ⟨by rfl, ?_⟩) (by assumption) ?_
        rotate_left
        · (intro w hSw; (try dsimp only at hSw); go_simp; try with_reducible rfl)
        try simp only [Act.put, List.setIfInBounds_toArray, List.set_cons_zero, List.set_cons_succ]
        refine wpAnyH_take (i := 7) (oi := ⟨some 33, .load 22 (.tmp 32), 22, _, _, none⟩) (v := ?_) rfl (by kernel_rfl) (by kernel_rfl) (by kernel_rfl) (fun _ _ _ h => h) (Or.inl ⟨by rfl, ?_⟩) (by assumption) ?_
        rotate_left
        · (intro w hSw; (try dsimp only at hSw); go_simp; try with_reducible rfl)
        try simp only [Act.put, List.setIfInBounds_toArray, List.set_cons_zero, List.set_cons_succ]
        refine wpAnyH_take (i := 8) (oi := ⟨some 34, .move (.tmp 6), 3, _, _, none⟩) (v := ?_) rfl (by kernel_rfl) (by kernel_rfl) (by kernel_rfl) (fun _ _ _ h => h) (Or.inl ⟨by rfl, ?_⟩) (by assumption) ?_
        rotate_left
        · (intro w hSw; (try dsimp only at hSw); go_simp; try with_reducible rfl)
        try simp only [Act.put, List.setIfInBounds_toArray, List.set_cons_zero, List.set_cons_succ]
        refine wpAnyH_take (i := 9) (oi := ⟨some 35, .indexAddr 22 (.tmp 33) (.tmp 34), 0, _, _, none⟩) (v := ?_) rfl (by kernel_rfl) (by kernel_rfl) (by kernel_rfl) (fun _ _ _ h => h) (Or.inl ⟨by rfl, ?_⟩) (by assumption) ?_
        rotate_left
        · (intro w hSw; (try dsimp only at hSw); go_simp; try with_reducible rfl)
        try simp only [Act.put, List.setIfInBounds_toArray, List.set_cons_zero, List.set_cons_succ]
        refine wpAnyH_take (i := 11) (oi := ⟨some 37, .load 91 (.tmp 7), 91, _, _, none⟩) (v := ?_) rfl (by kernel_rfl) (by kernel_rfl) (by kernel_rfl) (fun _ _ _ h => h) (Or.inl ⟨by rfl, ?_⟩) (by assumption) ?_
        rotate_left
        · (intro w hSw; (try dsimp only at hSw); go_simp; try with_reducible rfl)
        try simp only [Act.put, List.setIfInBounds_toArray, List.set_cons_zero, List.set_cons_succ]
        refine wpAnyH_ready (rs := [10]) (by kernel_rfl) (by simp) ?_
        refine AllReadyH.cons (o := ⟨some 36, .load 58 (.tmp 35), 58, _, _, none⟩) rfl (fun K hK => ?_) ?_
        rotate_left
        · exact AllReadyH.nil
        go_simp
        refine hK.out _ _ ?_ (fun hHeld => ?_)
        · exact HSS.out _ (Below.refl _ _).drew
        clear hK K
        try simp only [Act.put, List.setIfInBounds_toArray, List.set_cons_zero, List.set_cons_succ]
        refine wpAnyH_ready (rs := [12]) (by kernel_rfl) (by simp) ?_
        refine AllReadyH.cons (o := ⟨some 38, .call { callee := .value (.func 48), args := #[.tmp 36, .tmp 37], argTypes := #[58, 91] }, 9, _, _, none⟩) rfl (fun K hK => ?_) ?_
        rotate_left
        · exact AllReadyH.nil
        go_simp
        go_at_call 48
        refine (HC.out _ ?bel).mono ?_
        case bel => exact ((below1 wr _).drew)
        rintro e w6 ⟨rfl, N6, hb6⟩
        have n6 := HSS.out w6 (below_then (Below.refl _ _).drew hb6)
        have m6 := fun x => HS1.out w6 (k * 3 + 1) x n6
        have m7 := fun x y => HS1.out _ (k * 3 + 2) y (m6 x)
        have e0 := below_cell N6 c0
        have e1 := below_cell N6 c1
        have e2 := below_cell N6 c2
        have x1 := (N6.frozen (p := ⟨g, k * 3 + 1, none⟩) hg2).trans y1
        have x2 := (N6.frozen (p := ⟨g, k * 3 + 2, none⟩) hg2).trans y2
        have l7 := lt_of_cell e0
        refine hK.out _ _ ?_ (fun hHeld => ?_)
        · exact n6
        clear hK K
        try simp only [Act.put, List.setIfInBounds_toArray, List.set_cons_zero, List.set_cons_succ]
        refine wpAnyH_take (i := 13) (oi := ⟨some 39, .indexAddr 22 (.tmp 27) (.tmp 28), 0, _, _, none⟩) (v := ?_) rfl (by kernel_rfl) (by kernel_rfl) (by kernel_rfl) (fun _ _ _ h => h) (Or.inl ⟨by rfl, ?_⟩) (by assumption) ?_
        rotate_left
        · (intro w hSw; (try dsimp only at hSw); go_simp; try with_reducible rfl)
        try simp only [Act.put, List.setIfInBounds_toArray, List.set_cons_zero, List.set_cons_succ]
        refine wpAnyH_take (i := 14) (oi := ⟨some 40, .fieldAddr 58 (.tmp 39) 1, 0, _, _, none⟩) (v := ?_) rfl (by kernel_rfl) (by kernel_rfl) (by kernel_rfl) (fun _ _ _ h => h) (Or.inl ⟨by rfl, ?_⟩) (by assumption) ?_
        rotate_left
        · (intro w hSw; (try dsimp only at hSw); go_simp; try with_reducible rfl)
        try simp only [Act.put, List.setIfInBounds_toArray, List.set_cons_zero, List.set_cons_succ]
        refine wpAnyH_ready (rs := [15]) (by kernel_rfl) (by simp) ?_
        refine AllReadyH.cons (o := ⟨none, .store 9 (.tmp 40) (.tmp 38), 0, _, _, none⟩) rfl (fun K hK => ?_) ?_
        rotate_left
        · exact AllReadyH.nil
        go_simp
        refine hK.out _ _ ?_ (fun hHeld => ?_)
        · exact m6 _
        clear hK K
        try simp only [Act.put, List.setIfInBounds_toArray, List.set_cons_zero, List.set_cons_succ]
        refine wpAnyH_take (i := 16) (oi := ⟨some 41, .indexAddr 22 (.tmp 30) (.tmp 31), 0, _, _, none⟩) (v := ?_) rfl (by kernel_rfl) (by kernel_rfl) (by kernel_rfl) (fun _ _ _ h => h) (Or.inl ⟨by rfl, ?_⟩) (by assumption) ?_
        rotate_left
        · (intro w hSw; (try dsimp only at hSw); go_simp; try with_reducible rfl)
        try simp only [Act.put, List.setIfInBounds_toArray, List.set_cons_zero, List.set_cons_succ]
        refine wpAnyH_take (i := 17) (oi := ⟨some 42, .fieldAddr 58 (.tmp 41) 2, 0, _, _, none⟩) (v := ?_) rfl (by kernel_rfl) (by kernel_rfl) (by kernel_rfl) (fun _ _ _ h => h) (Or.inl ⟨by rfl, ?_⟩) (by assumption) ?_
        rotate_left
        · (intro w hSw; (try dsimp only at hSw); go_simp; try with_reducible rfl)
        try simp only [Act.put, List.setIfInBounds_toArray, List.set_cons_zero, List.set_cons_succ]
        refine wpAnyH_ready (rs := [18]) (by kernel_rfl) (by simp) ?_
        refine AllReadyH.cons (o := ⟨none, .store 56 (.tmp 42) (.const (.slice none 0 0)), 0, _, _, none⟩) rfl (fun K hK => ?_) ?_
        rotate_left
        · exact AllReadyH.nil
        go_simp
        refine hK.out _ _ ?_ (fun hHeld => ?_)
        · exact m7 _ _
        clear hK K
        try simp only [Act.put, List.setIfInBounds_toArray, List.set_cons_zero, List.set_cons_succ]
        refine wpAnyH_done (by kernel_rfl) ?_ _
        refine NoPanic.normal ?_
        go_wp2_with fail
        go_roundw
        case rel => exact ⟨k + 1, by omega, by go_num, crash_next HLC.out hlt hown.out hops.out hz.out hbl.out N6 hg1 (by have := hbl.out.size; omega) (show (crashRow l1[k] fs[k]?).safe = _ by rw [List.getElem?_eq_getElem hkf]; rfl)⟩
        case measure => simp [intOf]; omega
      · have hcall : ∀ W, Below wr.heap.size wr W → Calls Try.prog 48 #[.agg #[.string l1[k].name, .string l1[k].safe, .slice p3 l1[k].opens.length cap3], .agg #[.slice none 0 0, .int .i64 (-1), .int .i64 0]] W fun e w' =>
            e = .returned (.string l1[k].safe) ∧ Below wr.heap.size wr w' ∧ Below W.heap.size W w' := fun W hW => by
          have h := survived_any l1[k].name l1[k].safe l1[k].opens _ [] (.slice none 0 0) (-1) 0 W (HOP.out.below hW) hk1 (reads_nil W 1) hk2 HK3.out
          rw [surv_no] at h
          exact h.mono fun e w' ⟨h1, h2⟩ => ⟨h1, below_then hW h2, h2⟩
        have HC := Lib.hid hcall
        clear hcall
        have hS : ∀ w' : World, Below (wr.alloc (.cells #[.slice none 0 0, .int .i64 (-1), .int .i64 0] 91)).heap.size (wr.alloc (.cells #[.slice none 0 0, .int .i64 (-1), .int .i64 0] 91)) w' → (fun w' => w'.cell? ⟨w2.heap.size, 0, none⟩ = some (.slice (some ⟨g, 0, none⟩) l1.length qc) ∧ w'.cell? ⟨wr.heap.size, 0, none⟩ = some (.slice none 0 0) ∧ w'.cell? ⟨wr.heap.size, 1, none⟩ = some (.int .i64 (-1)) ∧ w'.cell? ⟨wr.heap.size, 2, none⟩ = some (.int .i64 0)) w' := fun w' h => ⟨below_cell h (below_cell (below1 wr _) z0), below_cell h (by simp), below_cell h (by simp), below_cell h (by simp)⟩
        have hS1 : ∀ (w' : World) (j : Nat) (x : Value), (fun w' => w'.cell? ⟨w2.heap.size, 0, none⟩ = some (.slice (some ⟨g, 0, none⟩) l1.length qc) ∧ w'.cell? ⟨wr.heap.size, 0, none⟩ = some (.slice none 0 0) ∧ w'.cell? ⟨wr.heap.size, 1, none⟩ = some (.int .i64 (-1)) ∧ w'.cell? ⟨wr.heap.size, 2, none⟩ = some (.int .i64 0)) w' → (fun w' => w'.cell? ⟨w2.heap.size, 0, none⟩ = some (.slice (some ⟨g, 0, none⟩) l1.length qc) ∧ w'.cell? ⟨wr.heap.size, 0, none⟩ = some (.slice none 0 0) ∧ w'.cell? ⟨wr.heap.size, 1, none⟩ = some (.int .i64 (-1)) ∧ w'.cell? ⟨wr.heap.size, 2, none⟩ = some (.int .i64 0)) (w'.setCell ⟨g, j, none⟩ x) := fun w' j x h => by
          obtain ⟨h1, h2, h3, h4⟩ := h
          exact ⟨(World.cell?_setCell_far _ _ _ _ hgz).trans h1, (World.cell?_setCell_far _ _ _ _ hgt).trans h2, (World.cell?_setCell_far _ _ _ _ hgt).trans h3, (World.cell?_setCell_far _ _ _ _ hgt).trans h4⟩
        have HSS := Lib.hid hS
        have HS1 := Lib.hid hS1
        clear hS hS1
        go_wp2_with fail
        refine wp_region_noPanic ?_
        refine wp_region_held_drew (S := (fun w' => w'.cell? ⟨w2.heap.size, 0, none⟩ = some (.slice (some ⟨g, 0, none⟩) l1.length qc) ∧ w'.cell? ⟨wr.heap.size, 0, none⟩ = some (.slice none 0 0) ∧ w'.cell? ⟨wr.heap.size, 1, none⟩ = some (.int .i64 (-1)) ∧ w'.cell? ⟨wr.heap.size, 2, none⟩ = some (.int .i64 0))) (by kernel_rfl) ?_ (fun hHeld => ?_)
        · exact HSS.out _ (Below.refl _ _).drew
        refine wpAnyH_take (i := 0) (oi := ⟨some 26, .fieldAddr 24 (.tmp 5) 0, 0, _, _, none⟩) (v := ?_) rfl (by kernel_rfl) (by kernel_rfl) (by kernel_rfl) (fun _ _ _ h => h) (Or.inl ⟨by rfl, ?_⟩) (by assumption) ?_
        rotate_left
        · (intro w hSw; (try dsimp only at hSw); go_simp; try with_reducible rfl)
        try simp only [Act.put, List.setIfInBounds_toArray, List.set_cons_zero, List.set_cons_succ]
        refine wpAnyH_take (i := 1) (oi := ⟨some 27, .load 22 (.tmp 26), 22, _, _, none⟩) (v := ?_) rfl (by kernel_rfl) (by kernel_rfl) (by kernel_rfl) (fun _ _ _ h => h) (Or.inl ⟨by rfl, ?_⟩) (by assumption) ?_
        rotate_left
        · (intro w hSw; (try dsimp only at hSw); go_simp; try with_reducible rfl)
        try simp only [Act.put, List.setIfInBounds_toArray, List.set_cons_zero, List.set_cons_succ]
        refine wpAnyH_take (i := 2) (oi := ⟨some 28, .move (.tmp 6), 3, _, _, none⟩) (v := ?_) rfl (by kernel_rfl) (by kernel_rfl) (by kernel_rfl) (fun _ _ _ h => h) (Or.inl ⟨by rfl, ?_⟩) (by assumption) ?_
        rotate_left
        · (intro w hSw; (try dsimp only at hSw); go_simp; try with_reducible rfl)
        try simp only [Act.put, List.setIfInBounds_toArray, List.set_cons_zero, List.set_cons_succ]
        refine wpAnyH_take (i := 3) (oi := ⟨some 29, .fieldAddr 24 (.tmp 5) 0, 0, _, _, none⟩) (v := ?_) rfl (by kernel_rfl) (by kernel_rfl) (by kernel_rfl) (fun _ _ _ h => h) (Or.inl ⟨by rfl, ?_⟩) (by assumption) ?_
        rotate_left
        · (intro w hSw; (try dsimp only at hSw); go_simp; try with_reducible rfl)
        try simp only [Act.put, List.setIfInBounds_toArray, List.set_cons_zero, List.set_cons_succ]
        refine wpAnyH_take (i := 4) (oi := ⟨some 30, .load 22 (.tmp 29), 22, _, _, none⟩) (v := ?_) rfl (by kernel_rfl) (by kernel_rfl) (by kernel_rfl) (fun _ _ _ h => h) (Or.inl ⟨by rfl, ?_⟩) (by assumption) ?_
        rotate_left
        · (intro w hSw; (try dsimp only at hSw); go_simp; try with_reducible rfl)
        try simp only [Act.put, List.setIfInBounds_toArray, List.set_cons_zero, List.set_cons_succ]
        refine wpAnyH_take (i := 5) (oi := ⟨some 31, .move (.tmp 6), 3, _, _, none⟩) (v := ?_) rfl (by kernel_rfl) (by kernel_rfl) (by kernel_rfl) (fun _ _ _ h => h) (Or.inl ⟨by rfl, ?_⟩) (by assumption) ?_
        rotate_left
        · (intro w hSw; (try dsimp only at hSw); go_simp; try with_reducible rfl)
        try simp only [Act.put, List.setIfInBounds_toArray, List.set_cons_zero, List.set_cons_succ]
        refine wpAnyH_take (i := 6) (oi := ⟨some 32, .fieldAddr 24 (.tmp 5) 0, 0, _, _, none⟩) (v := ?_) rfl (by kernel_rfl) (by kernel_rfl) (by kernel_rfl) (fun _ _ _ h => h) (Or.inl ⟨by rfl, ?_⟩) (by assumption) ?_
        rotate_left
        · (intro w hSw; (try dsimp only at hSw); go_simp; try with_reducible rfl)
        try simp only [Act.put, List.setIfInBounds_toArray, List.set_cons_zero, List.set_cons_succ]
        refine wpAnyH_take (i := 7) (oi := ⟨some 33, .load 22 (.tmp 32), 22, _, _, none⟩) (v := ?_) rfl (by kernel_rfl) (by kernel_rfl) (by kernel_rfl) (fun _ _ _ h => h) (Or.inl ⟨by rfl, ?_⟩) (by assumption) ?_
        rotate_left
        · (intro w hSw; (try dsimp only at hSw); go_simp; try with_reducible rfl)
        try simp only [Act.put, List.setIfInBounds_toArray, List.set_cons_zero, List.set_cons_succ]
        refine wpAnyH_take (i := 8) (oi := ⟨some 34, .move (.tmp 6), 3, _, _, none⟩) (v := ?_) rfl (by kernel_rfl) (by kernel_rfl) (by kernel_rfl) (fun _ _ _ h => h) (Or.inl ⟨by rfl, ?_⟩) (by assumption) ?_
        rotate_left
        · (intro w hSw; (try dsimp only at hSw); go_simp; try with_reducible rfl)
        try simp only [Act.put, List.setIfInBounds_toArray, List.set_cons_zero, List.set_cons_succ]
        refine wpAnyH_take (i := 9) (oi := ⟨some 35, .indexAddr 22 (.tmp 33) (.tmp 34), 0, _, _, none⟩) (v := ?_) rfl (by kernel_rfl) (by kernel_rfl) (by kernel_rfl) (fun _ _ _ h => h) (Or.inl ⟨by rfl, ?_⟩) (by assumption) ?_
        rotate_left
        · (intro w hSw; (try dsimp only at hSw); go_simp; try with_reducible rfl)
        try simp only [Act.put, List.setIfInBounds_toArray, List.set_cons_zero, List.set_cons_succ]
        refine wpAnyH_take (i := 11) (oi := ⟨some 37, .load 91 (.tmp 7), 91, _, _, none⟩) (v := ?_) rfl (by kernel_rfl) (by kernel_rfl) (by kernel_rfl) (fun _ _ _ h => h) (Or.inl ⟨by rfl, ?_⟩) (by assumption) ?_
        rotate_left
        · (intro w hSw; (try dsimp only at hSw); go_simp; try with_reducible rfl)
        try simp only [Act.put, List.setIfInBounds_toArray, List.set_cons_zero, List.set_cons_succ]
        refine wpAnyH_ready (rs := [10]) (by kernel_rfl) (by simp) ?_
        refine AllReadyH.cons (o := ⟨some 36, .load 58 (.tmp 35), 58, _, _, none⟩) rfl (fun K hK => ?_) ?_
        rotate_left
        · exact AllReadyH.nil
        go_simp
        refine hK.out _ _ ?_ (fun hHeld => ?_)
        · exact HSS.out _ (Below.refl _ _).drew
        clear hK K
        try simp only [Act.put, List.setIfInBounds_toArray, List.set_cons_zero, List.set_cons_succ]
        refine wpAnyH_ready (rs := [12]) (by kernel_rfl) (by simp) ?_
        refine AllReadyH.cons (o := ⟨some 38, .call { callee := .value (.func 48), args := #[.tmp 36, .tmp 37], argTypes := #[58, 91] }, 9, _, _, none⟩) rfl (fun K hK => ?_) ?_
        rotate_left
        · exact AllReadyH.nil
        go_simp
        go_at_call 48
        refine (HC.out _ ?bel).mono ?_
        case bel => exact ((below1 wr _).drew)
        rintro e w6 ⟨rfl, N6, hb6⟩
        have n6 := HSS.out w6 (below_then (Below.refl _ _).drew hb6)
        have m6 := fun x => HS1.out w6 (k * 3 + 1) x n6
        have m7 := fun x y => HS1.out _ (k * 3 + 2) y (m6 x)
        have e0 := below_cell N6 c0
        have e1 := below_cell N6 c1
        have e2 := below_cell N6 c2
        have x1 := (N6.frozen (p := ⟨g, k * 3 + 1, none⟩) hg2).trans y1
        have x2 := (N6.frozen (p := ⟨g, k * 3 + 2, none⟩) hg2).trans y2
        have l7 := lt_of_cell e0
        refine hK.out _ _ ?_ (fun hHeld => ?_)
        · exact n6
        clear hK K
        try simp only [Act.put, List.setIfInBounds_toArray, List.set_cons_zero, List.set_cons_succ]
        refine wpAnyH_take (i := 13) (oi := ⟨some 39, .indexAddr 22 (.tmp 27) (.tmp 28), 0, _, _, none⟩) (v := ?_) rfl (by kernel_rfl) (by kernel_rfl) (by kernel_rfl) (fun _ _ _ h => h) (Or.inl ⟨by rfl, ?_⟩) (by assumption) ?_
        rotate_left
        · (intro w hSw; (try dsimp only at hSw); go_simp; try with_reducible rfl)
        try simp only [Act.put, List.setIfInBounds_toArray, List.set_cons_zero, List.set_cons_succ]
        refine wpAnyH_take (i := 14) (oi := ⟨some 40, .fieldAddr 58 (.tmp 39) 1, 0, _, _, none⟩) (v := ?_) rfl (by kernel_rfl) (by kernel_rfl) (by kernel_rfl) (fun _ _ _ h => h) (Or.inl ⟨by rfl, ?_⟩) (by assumption) ?_
        rotate_left
        · (intro w hSw; (try dsimp only at hSw); go_simp; try with_reducible rfl)
        try simp only [Act.put, List.setIfInBounds_toArray, List.set_cons_zero, List.set_cons_succ]
        refine wpAnyH_ready (rs := [15]) (by kernel_rfl) (by simp) ?_
        refine AllReadyH.cons (o := ⟨none, .store 9 (.tmp 40) (.tmp 38), 0, _, _, none⟩) rfl (fun K hK => ?_) ?_
        rotate_left
        · exact AllReadyH.nil
        go_simp
        refine hK.out _ _ ?_ (fun hHeld => ?_)
        · exact m6 _
        clear hK K
        try simp only [Act.put, List.setIfInBounds_toArray, List.set_cons_zero, List.set_cons_succ]
        refine wpAnyH_take (i := 16) (oi := ⟨some 41, .indexAddr 22 (.tmp 30) (.tmp 31), 0, _, _, none⟩) (v := ?_) rfl (by kernel_rfl) (by kernel_rfl) (by kernel_rfl) (fun _ _ _ h => h) (Or.inl ⟨by rfl, ?_⟩) (by assumption) ?_
        rotate_left
        · (intro w hSw; (try dsimp only at hSw); go_simp; try with_reducible rfl)
        try simp only [Act.put, List.setIfInBounds_toArray, List.set_cons_zero, List.set_cons_succ]
        refine wpAnyH_take (i := 17) (oi := ⟨some 42, .fieldAddr 58 (.tmp 41) 2, 0, _, _, none⟩) (v := ?_) rfl (by kernel_rfl) (by kernel_rfl) (by kernel_rfl) (fun _ _ _ h => h) (Or.inl ⟨by rfl, ?_⟩) (by assumption) ?_
        rotate_left
        · (intro w hSw; (try dsimp only at hSw); go_simp; try with_reducible rfl)
        try simp only [Act.put, List.setIfInBounds_toArray, List.set_cons_zero, List.set_cons_succ]
        refine wpAnyH_ready (rs := [18]) (by kernel_rfl) (by simp) ?_
        refine AllReadyH.cons (o := ⟨none, .store 56 (.tmp 42) (.const (.slice none 0 0)), 0, _, _, none⟩) rfl (fun K hK => ?_) ?_
        rotate_left
        · exact AllReadyH.nil
        go_simp
        refine hK.out _ _ ?_ (fun hHeld => ?_)
        · exact m7 _ _
        clear hK K
        try simp only [Act.put, List.setIfInBounds_toArray, List.set_cons_zero, List.set_cons_succ]
        refine wpAnyH_done (by kernel_rfl) ?_ _
        refine NoPanic.normal ?_
        go_wp2_with fail
        go_roundw
        case rel => exact ⟨k + 1, by omega, by go_num, crash_next HLC.out hlt hown.out hops.out hz.out hbl.out N6 hg1 (by have := hbl.out.size; omega) (show (crashRow l1[k] fs[k]?).safe = _ by rw [List.getElem?_eq_none (by omega)]; rfl)⟩
        case measure => simp [intOf]; omega
    · obtain rfl : k = l1.length := by omega
      have f1 := hR.c
      have fz := hR.f
      have hlR := hR.lt
      have hown2 := hown.out
      rw [List.drop_length, List.append_nil, ← crashRows_length l1 fs, List.take_length, crashRows_length] at hown2
      have HOW := Lib.hid hown2
      clear hown2 hown
      go_wp2_with fail
      refine bodyPost_ret (v := .agg #[.slice q l1.length qc]) (by simp [results, Try.results28, go_sem, f1]) rfl
        ⟨_, crashRows l1 fs, rfl, crashRows_core HC1.out fs, ⟨?_, fun r hr => ?_⟩, HBW.out.setCell (by simp) _⟩
      · rw [crashRows_length]
        exact owns_mono (owns_other HOW.out (not_at HOW.out hR (by decide)) _ _) (by omega)
      · obtain ⟨r0, _, f, rfl⟩ := crash_mem hr
        exact World.ownsRow_nil _ _ _ _
end Go.Proofs.Ytkecjopojnllnaa
namespace Go.Proofs.Ytkecjopojnllnaa
open Go.RowKit Go.Deep Go.Joins
theorem idx_same {l l' : List Rw} (h : l'.map core = l.map core) (x : ByteArray) : idx (sameName x) l' = idx (sameName x) l := by
  have e : ∀ m : List Rw, m.findIdx? (sameName x) = (m.map core).findIdx? (fun f => sameN f.name x) := fun m => by rw [List.findIdx?_map]; rfl
  unfold idx
  rw [e l', e l, h]
theorem core_mem {l l' : List Rw} (h : l'.map core = l.map core) {r : Rw} (hr : r ∈ l') : ∃ r0 ∈ l, r0.name = r.name ∧ r0.safe = r.safe ∧ r0.opens = r.opens := by
  have h1 : core r ∈ l.map core := h ▸ List.mem_map_of_mem hr
  obtain ⟨r0, h2, h3⟩ := List.mem_map.1 h1
  unfold core at h3
  simp only [Fl.mk.injEq] at h3
  exact ⟨r0, h2, h3⟩
/-- Files that are small. -/
def Small (l : List Rw) : Prop := l.length ≤ 1048576 ∧ ∀ r ∈ l, r.opens.length ≤ 1048576 ∧ r.safe.size ≤ 1048576 ∧ ∀ x ∈ r.opens, x.bytes.size ≤ 1048576
theorem Small.core {l l' : List Rw} (hs : Small l) (h : l'.map core = l.map core) : Small l' := by
  have hl : l'.length = l.length := by simpa using congrArg List.length h
  refine ⟨by rw [hl]; exact hs.1, fun r hr => ?_⟩
  obtain ⟨r0, h0, _, h2, h3⟩ := core_mem h hr
  rw [← h2, ← h3]
  exact hs.2 r0 h0
theorem Small.okay {l : List Rw} (hs : Small l) : Okay l := fun r hr => by
  obtain ⟨h1, h2, h3⟩ := hs.2 r hr
  exact ⟨by omega, fun x hx => by have := h3 x hx; omega, by omega⟩
theorem Small.refs {l : List Rw} (hs : Small l) : ∀ r ∈ l, r.opens.length ≤ 1099511627776 ∧ r.safe.size ≤ 1099511627776 ∧ ∀ x ∈ r.opens, x.bytes.size ≤ 1099510579200 := fun r hr => by
  obtain ⟨h1, h2, h3⟩ := hs.2 r hr
  exact ⟨by omega, by omega, fun x hx => by have := h3 x hx; omega⟩
/-- All bytes of a file by its name: the program's answer and the reference's. -/
theorem bytes_both (l l1 : List Rw) (v v1 : Value) (x : ByteArray) (hc : l1.map core = l.map core) (hs : Small l) : ∃ (A : ByteArray) (E : Int),
    (∀ W : World, Reads W v1 3 l1.length (rowCells l1) → Opens W l1 → Calls Try.prog 73 #[.agg #[v1], .string x] W fun e w' => e = .returned (.tuple #[.string A, .int .i64 E]) ∧ Below W.heap.size W w') ∧
    (∀ W : World, Reads W v 3 l.length (rowCells l) → Opens W l → Calls Try.prog 39 #[.agg #[v], .string x] W fun e w' => e = .returned (.tuple #[.string A, .int .i64 E]) ∧ Below W.heap.size W w') := by
  have hs1 := hs.core hc
  have hl := hs.1
  have hl1 := hs1.1
  rcases idx_cases (sameName x) l with ⟨_, hi⟩ | ⟨k, hk, hi, _, _⟩
  · exact ⟨⟨#[]⟩, 20, fun W h _ => bytes_none l1 v1 x W h (by omega) (by rw [idx_same hc, hi]), fun W h _ => bytes2_none l v x W h (by omega) hi⟩
  · have hll : l1.length = l.length := by simpa using congrArg List.length hc
    have hk1 : k < l1.length := by omega
    obtain ⟨e0, e1, e2⟩ := core_at hc k hk1 hk
    refine ⟨layB l[k].safe l[k].opens, 0, fun W h ho => ?_, fun W h ho => ?_⟩
    · have := bytes_some l1 v1 x W k hk1 h ho hs1.okay (by omega) (by rw [idx_same hc, hi])
      rw [← e1, ← e2] at this
      exact this
    · obtain ⟨h1, h2, h3⟩ := hs.refs l[k] (List.getElem_mem _)
      exact bytes2_some l v x W k hk h ho (by omega) h2 h1 h3 hi
end Go.Proofs.Ytkecjopojnllnaa
namespace Go.Proofs.Ytkecjopojnllnaa
open Go.RowKit Go.Deep Go.Joins
theorem cutTo_size (nb : Int) (s : ByteArray) : (cutTo nb s).size ≤ s.size := by
  obtain ⟨x, m, h1, h2, _⟩ := cut_ops nb s
  rw [h2, ByteArray.size_extract]
  omega
theorem surv_bytes (whole : List Bool) (torn nb : Int) (B : Nat) (l : List Wr) (i : Nat) (h : ∀ x ∈ l, x.bytes.size ≤ B) : ∀ x ∈ surv whole torn nb i l, x.bytes.size ≤ B := by
  induction l generalizing i with
  | nil => intro x hx; rw [surv_nil] at hx; cases hx
  | cons y l ih =>
    have h1 := h y (by simp)
    have h2 := ih (i + 1) fun x hx => h x (List.mem_cons_of_mem _ hx)
    intro x hx
    rw [surv_cons] at hx
    split at hx
    · rw [List.mem_singleton] at hx
      subst hx
      exact Nat.le_trans (cutTo_size nb y.bytes) h1
    · split at hx
      · rcases List.mem_cons.1 hx with rfl | hx
        · exact h1
        · exact h2 x hx
      · exact h2 x hx
end Go.Proofs.Ytkecjopojnllnaa
namespace Go.Proofs.Ytkecjopojnllnaa
open Go.RowKit Go.Deep Go.Joins
theorem placeOf_le (name : ByteArray) (l : List Rw) : ∃ P : Nat, placeOf name l = P ∧ P ≤ l.length := by
  unfold placeOf
  rcases idx_cases (aboveName name) l with ⟨_, hi⟩ | ⟨k, hk, hi, _⟩
  · exact ⟨l.length, by rw [if_pos (by omega)], Nat.le_refl _⟩
  · exact ⟨k, by rw [if_neg (by omega), hi], by omega⟩
theorem spot_lt (l : List Rw) (name : ByteArray) : (spot l name).2 < (spot l name).1.length := by
  unfold spot
  rcases idx_cases (sameName name) l with ⟨_, hi⟩ | ⟨k, hk, hi, _⟩
  · rw [if_pos (by omega)]
    obtain ⟨P, hP, hPl⟩ := placeOf_le name l
    rw [hP]
    simp [insertAt]
    omega
  · rw [if_neg (by omega), hi]
    simpa using hk
end Go.Proofs.Ytkecjopojnllnaa
