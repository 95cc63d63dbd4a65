/- The disk of the reference, and what of the disk the log calls (my own, from the seat of the disk): L. -/
import Derived.Test.YtkecjopojnllnaaM03
namespace Go.Proofs.Ytkecjopojnllnaa
open Go.RowKit Go.Deep Go.Joins
set_option maxHeartbeats 1000000 in
set_option maxRecDepth 100000 in
theorem works_any (t : Int) (s : ByteArray) (w : World) :
    Calls Try.prog 88 #[.agg #[.int .i64 t, .string s]] w fun e w' => e = .returned (.bool (worksB t s)) ∧ Below w.heap.size w w' := by
  unfold worksB
  rcases Bool.eq_false_or_eq_true s.toList.isEmpty with hs | hs
  · go_enter Try.func88, Try.ntmps88
    go_wp2
    go_ret
    exact ⟨by simp [hs], (Below.refl _ _).alloc (Nat.le_refl _) _⟩
  · by_cases h0 : 0 ≤ t
    · by_cases h1 : t ≤ 1048576
      · go_enter Try.func88, Try.ntmps88
        go_wp2
        go_ret
        exact ⟨by simp [hs, h0, h1], (Below.refl _ _).alloc (Nat.le_refl _) _⟩
      · go_enter Try.func88, Try.ntmps88
        go_wp2
        go_ret
        exact ⟨by simp [h1], (Below.refl _ _).alloc (Nat.le_refl _) _⟩
    · go_enter Try.func88, Try.ntmps88
      go_wp2
      go_ret
      exact ⟨by simp; omega, (Below.refl _ _).alloc (Nat.le_refl _) _⟩
set_option maxHeartbeats 1000000 in
set_option maxRecDepth 100000 in
theorem same_any (n s : ByteArray) (o : Value) (x : ByteArray) (b off : Nat) (w : World) (hlt : b < w.heap.size) (hc : w.cell? ⟨b, off, none⟩ = some (.string x)) :
    Calls Try.prog 85 #[.agg #[.string n, .string s, o], .pointer (some ⟨b, off, none⟩)] w fun e w' => e = .returned (.bool (sameN n x)) ∧ Below w.heap.size w w' := by
  go_enter Try.func85, Try.ntmps85
  go_wp2
  go_ret
  exact ⟨rfl, (Below.refl _ _).alloc (Nat.le_refl _) _⟩
end Go.Proofs.Ytkecjopojnllnaa
namespace Go.Proofs.Ytkecjopojnllnaa
open Go.RowKit Go.Deep Go.Joins
set_option maxHeartbeats 1000000 in
set_option maxRecDepth 100000 in
theorem indexSame_any (l : List Rw) (v : Value) (x : ByteArray) (b off : Nat) (w : World) (hr : Reads w v 3 l.length (rowCells l)) (hm : l.length ≤ 9223372036854775807)
    (hlt : b < w.heap.size) (hc : w.cell? ⟨b, off, none⟩ = some (.string x)) :
    Calls Try.prog 84 #[v, .func (.func 85) #[] #[.pointer (some ⟨b, off, none⟩)]] w fun e w' => e = .returned (.int .i64 (idx (sameName x) l)) ∧ Below w.heap.size w w' := by
  obtain ⟨p, cap, rfl⟩ := hr.is
  go_enter Try.func84, Try.ntmps84
  go_wp2
  go_loopw [8] (fun i wr => ∃ k : Nat, k ≤ l.length ∧ i = .int .i64 k ∧ noneYet (sameName x) l k ∧ Below w.heap.size w wr) (fun i _ => l.length - (intOf i).toNat)
  case atStart => exact ⟨0, Nat.zero_le _, rfl, fun j _ h => absurd h (Nat.not_lt_zero _), Below.refl _ _⟩
  case round =>
    obtain ⟨k, hk, rfl, hall, hbl⟩ := hrel
    have Hall := Lib.hid hall
    clear hall
    have hlb := hbl.size
    by_cases hlt : k < l.length
    · obtain ⟨b1, off1, cap1, hv, _, _, hb1, c0, c1, c2⟩ := (hr.below hbl).file k hlt
      obtain ⟨rfl, rfl⟩ : p = some ⟨b1, off1, none⟩ ∧ cap = cap1 := by simpa using hv
      have cx := below_cell hbl hc
      clear hr hc hv
      have HB := Lib.hid hbl
      clear hbl
      rcases Bool.eq_false_or_eq_true (sameN l[k].name x) with hl | hl
      · go_wp2_with (go_at_call 85; refine (same_any _ _ _ x b off _ (by omega) cx).mono ?_; rintro e w1 ⟨rfl, hb2⟩)
        go_ret
        exact ⟨ret_int (idx_some hlt Hall.out hl).symm, HB.out.trans (hb2.mono hlb)⟩
      · go_wp2_with (go_at_call 85; refine (same_any _ _ _ x b off _ (by omega) cx).mono ?_; rintro e w1 ⟨rfl, hb2⟩)
        go_roundw
        case rel => exact ⟨k + 1, by omega, by go_num, noneYet_succ Hall.out fun _ => hl, HB.out.trans (hb2.mono hlb)⟩
        case measure => simp [intOf]; omega
    · go_wp2
      go_ret
      refine ⟨ret_int ?_, hbl⟩
      obtain rfl : k = l.length := by omega
      exact (idx_none Hall.out).symm
set_option maxHeartbeats 1000000 in
set_option maxRecDepth 100000 in
theorem find_any (l : List Rw) (v : Value) (x : ByteArray) (w : World) (hr : Reads w v 3 l.length (rowCells l)) (hm : l.length ≤ 9223372036854775807) :
    Calls Try.prog 80 #[.agg #[v], .string x] w fun e w' => e = .returned (.int .i64 (idx (sameName x) l)) ∧ Below w.heap.size w w' := by
  go_enter Try.func80, Try.ntmps80
  go_wp2_with fail
  refine (indexSame_any l v x _ 0 _ (hr.below (below2 w _ _)) hm (by simp) (by simp)).mono ?_
  rintro e w1 ⟨rfl, hb⟩
  go_wp2_with fail
  go_ret
  exact ⟨rfl, below_then (below2 w _ _) hb⟩
end Go.Proofs.Ytkecjopojnllnaa
namespace Go.Proofs.Ytkecjopojnllnaa
open Go.RowKit Go.Deep Go.Joins
theorem make_bytes (n : Nat) (h : n ≤ 140737489403904) : ∀ u : World, (Instr.makeSlice 86 (.int .i64 (n : Int)) (.int .i64 (n : Int))).run Try.prog u =
      .ok (.slice (some ⟨u.heap.size, 0, none⟩) n n) (u.alloc (.cells (bcells (List.replicate n 0)) 5)) := fun u => by
  obtain ⟨i0, hi, hz0, hz1, hz2⟩ := info_parts (show (Try.prog.info? 5).map (fun i => (i.zero, i.size, i.bytes)) = some (some (.int .u8 0), 1, 1) by kernel_rfl)
  have h := run_make (P := Try.prog) u 86 5 i0 (.int .u8 0) Try.underlying86 hi hz0 .i64 .i64 (n : Int) (n : Int) (by omega) (Int.le_refl _) (by rw [hz2]; omega) (by omega)
  rw [Int.toNat_natCast] at h
  rw [← made_bytes]
  simpa [hz1, Value.cells] using h
set_option maxHeartbeats 1000000 in
set_option maxRecDepth 100000 in
theorem lay_nil (s : ByteArray) (v : Value) (w : World) (hr : Reads w v 2 0 []) :
    Calls Try.prog 86 #[.string s, v] w fun e w' => e = .returned (.string (layB s [])) ∧ Below w.heap.size w w' := by
  obtain ⟨p, cap, rfl⟩ := hr.is
  have e : layB s [] = s := rfl
  rw [e]
  go_enter Try.func86, Try.ntmps86
  go_wp2
  go_ret
  exact ⟨rfl, Below.refl _ _⟩
set_option maxRecDepth 100000 in
set_option maxHeartbeats 400000 in
theorem lay_some (s : ByteArray) (l : List Wr) (v : Value) (w : World) (hr : Reads w v 2 l.length (wrCells l)) (h0 : 0 < l.length) (hm : l.length ≤ 9223372036854775807)
    (hs : s.size ≤ 140737489403904) (hb : ∀ x ∈ l, x.bytes.size ≤ 140737488355328) :
    Calls Try.prog 86 #[.string s, v] w fun e w' => e = .returned (.string (layB s l)) ∧ Below w.heap.size w w' := by
  obtain ⟨p, cap, rfl⟩ := hr.is
  have hc0 : ((l.length : Int) == 0) = false := by rw [beq_eq_false_iff_ne]; omega
  go_enter Try.func86, Try.ntmps86
  go_wp2
  go_loopw [5, 19] (fun n i wr => ∃ k : Nat, k ≤ l.length ∧ i = .int .i64 k ∧ n = .int .i64 (sizeUp s.size (l.take k)) ∧ sizeUp s.size (l.take k) ≤ 140737489403904 ∧ Below w.heap.size w wr) (fun _ i _ => l.length - (intOf i).toNat)
  case atStart => exact ⟨0, Nat.zero_le _, rfl, rfl, hs, Below.refl _ _⟩
  case round =>
    obtain ⟨k, hk, rfl, rfl, hsz, hbl⟩ := hrel
    by_cases hlt : k < l.length
    · obtain ⟨b1, off1, cap1, hv, _, _, hb1, c0, c1⟩ := (hr.below hbl).write k hlt
      obtain ⟨rfl, rfl⟩ : p = some ⟨b1, off1, none⟩ ∧ cap = cap1 := by simpa using hv
      have hbb := hb l[k] (List.getElem_mem _)
      have hsu := foldl_take_succ grow s.size l k hlt
      have HSU : Hid (sizeUp s.size (l.take (k + 1)) = grow (sizeUp s.size (l.take k)) l[k]) := hsu
      clear hsu hr hv
      have HB := Lib.hid hbl
      clear hbl
      generalize hN : sizeUp s.size (l.take k) = N at *
      have HN := Lib.hid hN
      clear hN
      rcases Bool.eq_false_or_eq_true (worksB l[k].pos l[k].bytes) with hw | hw
      · obtain ⟨p0, p1, p2⟩ := wk_pos (x := l[k]) hw
        obtain ⟨t, ht⟩ := Int.eq_ofNat_of_zero_le p0
        rw [ht] at c0 hw p1
        by_cases hcmp : N < t + l[k].bytes.size
        · have hg : grow N l[k] = t + l[k].bytes.size := by unfold grow wk; rw [ht, hw, if_pos rfl]; simp [hcmp]
          have HG := Lib.hid hg
          clear hg
          go_wp2_with (go_at_call 88; refine (works_any _ _ _).mono ?_; rintro e w1 ⟨rfl, hb2⟩; have d0 := hb2.cell (p := ⟨wr.heap.size, 0, none⟩) (by simp); have d1 := hb2.cell (p := ⟨wr.heap.size, 1, none⟩) (by simp))
          go_roundw
          case rel => exact ⟨k + 1, by omega, by go_num, by rw [HSU.out, HG.out]; try go_num, by rw [HSU.out, HG.out]; omega, HB.out.trans ((below_then (below1 _ _) hb2).mono HB.out.size)⟩
          case measure => simp [intOf]; omega
        · have hg : grow N l[k] = N := by unfold grow wk; rw [ht, hw, if_pos rfl]; simp; omega
          have HG := Lib.hid hg
          clear hg
          go_wp2_with (go_at_call 88; refine (works_any _ _ _).mono ?_; rintro e w1 ⟨rfl, hb2⟩; have d0 := hb2.cell (p := ⟨wr.heap.size, 0, none⟩) (by simp); have d1 := hb2.cell (p := ⟨wr.heap.size, 1, none⟩) (by simp))
          go_roundw
          case rel => exact ⟨k + 1, by omega, by go_num, by rw [HSU.out, HG.out]; try go_num, by rw [HSU.out, HG.out]; omega, HB.out.trans ((below_then (below1 _ _) hb2).mono HB.out.size)⟩
          case measure => simp [intOf]; omega
      · go_wp2_with (go_at_call 88; refine (works_any _ _ _).mono ?_; rintro e w1 ⟨rfl, hb2⟩)
        go_roundw
        case rel => exact ⟨k + 1, by omega, by go_num, by rw [HSU.out]; simp [grow, wk, hw], by rw [HSU.out]; simpa [grow, wk, hw] using hsz, HB.out.trans ((below_then (below1 _ _) hb2).mono HB.out.size)⟩
        case measure => simp [intOf]; omega
    · obtain rfl : k = l.length := by omega
      rw [List.take_length] at hsz ⊢
      clear hk
      generalize hN : sizeUp s.size l = N at *
      have HN := Lib.hid hN
      clear hN
      have hsN : s.size ≤ N := by rw [← HN.out]; exact sizeUp_ge _ _
      have hhas : ∀ x ∈ l, wk x = true → x.pos.toNat + x.bytes.size ≤ N := fun x hx hw => by rw [← HN.out]; exact sizeUp_has _ _ _ hx hw
      have Hhas := Lib.hid hhas
      clear hhas
      have hmk := make_bytes N (by omega)
      have HB := Lib.hid hbl
      clear hbl
      obtain ⟨L0, hL0⟩ : ∃ L0, L0 = spliceB (List.replicate N 0) 0 s := ⟨_, rfl⟩
      have hl0 : L0.length = N := by rw [hL0]; unfold spliceB; rw [length_splice _ _ _ (by rw [len_eq]; simpa using hsN)]; simp
      have HL0 := Lib.hid hL0
      have Hl0 := Lib.hid hl0
      clear hL0 hl0
      obtain ⟨wo, rfl⟩ : ∃ wo : World, wo = wr := ⟨_, rfl⟩
      go_wp2_with (refine wpList_copy_string (o := ⟨some 38, _, _, _, _, _⟩) rfl (.tmp 36) (.tmp 37) 86 9 rfl 5 Try.underlying86 (by kernel_rfl) N N wo.heap.size 0 ?hd s ?hs (List.replicate N 0) 5 ?hrow ?hn ?hfit w.heap.size w ?hbb ?hBg ?_; rotate_right 1; intro w2 hg2 hb2)
      case hd => rfl
      case hs => rfl
      case hrow => exact heap_alloc_new _ _
      case hn => exact hsN
      case hfit => simpa using hsN
      case hbb => exact HB.out.alloc HB.out.size _
      case hBg => exact HB.out.size
      rw [← HL0.out] at hg2
      have hgs := HB.out.size
      have hs2 : wo.heap.size < w2.heap.size := (Array.getElem?_eq_some_iff.1 hg2.out).1
      clear HB
      go_loopw [41] (fun i w3 => ∃ k : Nat, k ≤ l.length ∧ i = .int .i64 k ∧ Hid (w3.heap[wo.heap.size]? = some (.cells (bcells (overAll L0 (l.take k))) 5 (0, 0))) ∧ (overAll L0 (l.take k)).length = N ∧ wo.heap.size < w3.heap.size ∧ Below w.heap.size w w3) (fun i _ => l.length - (intOf i).toNat)
      case atStart => exact ⟨0, Nat.zero_le _, rfl, hg2, Hl0.out, hs2, hb2⟩
      case round =>
        obtain ⟨k, hk, rfl, hrow, hlen, hs3, hbl⟩ := hrel
        by_cases hlt : k < l.length
        · obtain ⟨b1, off1, cap1, hv, _, _, hb1, c0, c1⟩ := (hr.below hbl).write k hlt
          obtain ⟨rfl, rfl⟩ : p = some ⟨b1, off1, none⟩ ∧ cap = cap1 := by simpa using hv
          have hbb := hb l[k] (List.getElem_mem _)
          have hsu := foldl_take_succ over L0 l k hlt
          have HSU : Hid (overAll L0 (l.take (k + 1)) = over (overAll L0 (l.take k)) l[k]) := hsu
          have hfits := Hhas.out l[k] (List.getElem_mem _)
          clear hsu hr hv
          have HB := Lib.hid hbl
          clear hbl
          generalize hM : overAll L0 (l.take k) = M at *
          clear hM
          have Hlen := Lib.hid hlen
          clear hlen
          rcases Bool.eq_false_or_eq_true (worksB l[k].pos l[k].bytes) with hw | hw
          · obtain ⟨p0, p1, p2⟩ := wk_pos (x := l[k]) hw
            have hfit2 := hfits hw
            clear hfits
            have ho : over M l[k] = spliceB M l[k].pos.toNat l[k].bytes := by unfold over wk; rw [if_pos hw]
            have HO := Lib.hid ho
            clear ho
            obtain ⟨t, ht⟩ := Int.eq_ofNat_of_zero_le p0
            rw [ht] at c0 hw p1 hfit2 HO
            rw [Int.toNat_natCast] at hfit2 HO
            have Ht := Lib.hid ht
            clear ht p0
            go_wp2_with (go_at_call 88; refine (works_any _ _ _).mono ?_; rintro e w4 ⟨rfl, hb4⟩; have d0 := hb4.cell (p := ⟨wr.heap.size, 0, none⟩) (by simp); have d1 := hb4.cell (p := ⟨wr.heap.size, 1, none⟩) (by simp))
            have hB4 := below_then (below1 _ _) hb4
            have hrow4 : Hid (w4.heap[wo.heap.size]? = some (.cells (bcells M) 5 (0, 0))) := (hB4.block _ hs3).trans hrow.out
            have HB4 := Lib.hid (HB.out.trans (hB4.mono HB.out.size))
            clear hB4 hb4
            have hl2 : (over M l[k]).length = N := by rw [HO.out]; unfold spliceB; rw [length_splice _ _ _ (by rw [len_eq, Hlen.out]; exact hfit2), Hlen.out]
            have Hl2 := Lib.hid hl2
            clear hl2
            have htN : t ≤ N := by omega
            have htn : ¬ N = t := by omega
            go_region_law (refine step_copy_string (o := ⟨some 53, _, _, _, _, _⟩) rfl (.tmp 50) (.tmp 52) 86 9 rfl 5 Try.underlying86 (by kernel_rfl) (N - t) (N - t) wo.heap.size t ?hd l[k].bytes ?hs M 5 ?hrow ?hn ?hfit w.heap.size w ?hbb ?hBg ?_; (case hd => rfl); (case hs => rfl); (case hrow => exact hrow4.out); (case hn => omega); (case hfit => rw [Hlen.out]; exact hfit2); (case hbb => exact HB4.out.drew); (case hBg => exact hgs); intro w5 hg5 hb5)
            all_goals
              go_wp2_with fail
              go_roundw
              case rel => exact ⟨k + 1, by omega, by go_num, show _ = _ by rw [HSU.out, HO.out]; exact hg5.out, by rw [HSU.out]; exact Hl2.out, (Array.getElem?_eq_some_iff.1 hg5.out).1, hb5⟩
              case measure => simp [intOf]; omega
          · go_wp2_with (go_at_call 88; refine (works_any _ _ _).mono ?_; rintro e w4 ⟨rfl, hb4⟩)
            have ho : over M l[k] = M := by unfold over wk; rw [hw]; rfl
            have hB4 := below_then (below1 _ _) hb4
            go_roundw
            case rel => exact ⟨k + 1, by omega, by go_num, show _ = _ by rw [HSU.out, ho]; exact (hB4.block _ hs3).trans hrow.out, by rw [HSU.out, ho]; exact Hlen.out, Nat.lt_of_lt_of_le hs3 hB4.size, HB.out.trans (hB4.mono HB.out.size)⟩
            case measure => simp [intOf]; omega
        · obtain rfl : k = l.length := by omega
          rw [List.take_length] at hrow hlen
          have hcv := run_string_of_row (P := Try.prog) wr 86 9 5 wo.heap.size N N (overAll L0 l) 5 (0, 0) Try.underlying86 Try.underlying5 Try.underlying9 hrow.out hlen
          have HB := Lib.hid hbl
          clear hbl
          have hfin : layB s l = ⟨(overAll L0 l).toArray⟩ := by unfold layB; rw [if_neg (by omega), HN.out, ← HL0.out]
          have Hfin := Lib.hid hfin
          clear hfin
          go_wp2_with fail
          go_ret
          exact ⟨ret_string Hfin.out.symm, HB.out⟩
end Go.Proofs.Ytkecjopojnllnaa
namespace Go.Proofs.Ytkecjopojnllnaa
open Go.RowKit Go.Deep Go.Joins
theorem lay_any (s : ByteArray) (l : List Wr) (v : Value) (w : World) (hr : Reads w v 2 l.length (wrCells l)) (hm : l.length ≤ 9223372036854775807)
    (hs : s.size ≤ 140737489403904) (hb : ∀ x ∈ l, x.bytes.size ≤ 140737488355328) :
    Calls Try.prog 86 #[.string s, v] w fun e w' => e = .returned (.string (layB s l)) ∧ Below w.heap.size w w' := by
  cases l with
  | nil => exact lay_nil s v w hr
  | cons x l => exact lay_some s (x :: l) v w hr (by simp) hm hs hb
set_option maxHeartbeats 1000000 in
set_option maxRecDepth 100000 in
theorem all_any (n s : ByteArray) (l : List Wr) (v : Value) (w : World) (hr : Reads w v 2 l.length (wrCells l)) (hm : l.length ≤ 9223372036854775807)
    (hs : s.size ≤ 140737489403904) (hb : ∀ x ∈ l, x.bytes.size ≤ 140737488355328) :
    Calls Try.prog 81 #[.agg #[.string n, .string s, v]] w fun e w' => e = .returned (.string (layB s l)) ∧ Below w.heap.size w w' := by
  go_enter Try.func81, Try.ntmps81
  go_wp2_with fail
  refine (lay_any s l v _ (hr.below (below1 w _)) hm hs hb).mono ?_
  rintro e w1 ⟨rfl, hb⟩
  go_wp2_with fail
  go_ret
  exact ⟨rfl, below_then (below1 w _) hb⟩
theorem cut_ops (nb : Int) (s : ByteArray) : ∃ (x : Int) (m : Nat), m ≤ s.size ∧ cutTo nb s = s.extract 0 m ∧ (∀ u : World, (Builtin.max_ #[3, 3] 3 #[.int .i64 nb, .int .i64 0]).run Try.prog u = .ok (.int .i64 x) u) ∧
    (∀ u : World, (Builtin.min_ #[3, 3] 3 #[.int .i64 x, .int .i64 (s.size : Int)]).run Try.prog u = .ok (.int .i64 (m : Int)) u) := by
  generalize hx : (if 0 < nb then nb else 0) = x
  have hx0 : 0 ≤ x := by rw [← hx]; split <;> omega
  refine ⟨x, if (s.size : Int) < x then s.size else x.toNat, by split <;> omega, by unfold cutTo; rw [hx], fun u => ?_, fun u => ?_⟩
  · rw [run_max_int2]
    by_cases h : 0 < nb
    · rw [if_pos h] at hx; subst hx; rw [if_neg (by omega)]
    · rw [if_neg h] at hx; subst hx; congr 2; split <;> omega
  · rw [run_min_int2]
    congr 2
    split <;> omega
end Go.Proofs.Ytkecjopojnllnaa
namespace Go.Proofs.Ytkecjopojnllnaa
open Go.RowKit Go.Deep Go.Joins
theorem idx_cases (p : Rw → Bool) (l : List Rw) : (noneYet p l l.length ∧ idx p l = -1) ∨ ∃ (k : Nat) (hk : k < l.length), idx p l = k ∧ noneYet p l k ∧ p l[k] = true := by
  have : ∀ k, k ≤ l.length → noneYet p l k ∨ ∃ (j : Nat) (hj : j < l.length), noneYet p l j ∧ p l[j] = true := by
    intro k hk
    induction k with
    | zero => exact .inl fun j _ h => absurd h (Nat.not_lt_zero _)
    | succ k ih =>
      rcases ih (by omega) with h | h
      · by_cases e : p l[k] = true
        · exact .inr ⟨k, by omega, h, e⟩
        · exact .inl (noneYet_succ h fun _ => by simpa using e)
      · exact .inr h
  rcases this l.length (Nat.le_refl _) with h | ⟨k, hk, h1, h2⟩
  · exact .inl ⟨h, idx_none h⟩
  · exact .inr ⟨k, hk, idx_some hk h1 h2, h1, h2⟩
set_option maxHeartbeats 1000000 in
set_option maxRecDepth 100000 in
theorem bytes_none (l : List Rw) (v : Value) (x : ByteArray) (w : World) (hr : Reads w v 3 l.length (rowCells l)) (hm : l.length ≤ 9223372036854775807) (hn : idx (sameName x) l = -1) :
    Calls Try.prog 73 #[.agg #[v], .string x] w fun e w' => e = .returned (.tuple #[.string ⟨#[]⟩, .int .i64 20]) ∧ Below w.heap.size w w' := by
  go_enter Try.func73, Try.ntmps73
  go_wp2_with fail
  refine (find_any l v x _ (hr.below (below1 w _)) hm).mono ?_
  rintro e w1 ⟨rfl, hb⟩
  rw [hn]
  go_wp2_with fail
  go_ret2
  exact ⟨rfl, below_then (below1 w _) hb⟩
set_option maxHeartbeats 1000000 in
set_option maxRecDepth 100000 in
theorem bytes_some (l : List Rw) (v : Value) (x : ByteArray) (w : World) (k : Nat) (hk : k < l.length) (hr : Reads w v 3 l.length (rowCells l)) (ho : Opens w l) (hok : Okay l) (hm : l.length ≤ 9223372036854775807)
    (hn : idx (sameName x) l = k) :
    Calls Try.prog 73 #[.agg #[v], .string x] w fun e w' => e = .returned (.tuple #[.string (layB l[k].safe l[k].opens), .int .i64 0]) ∧ Below w.heap.size w w' := by
  have hmem : l[k] ∈ l := List.getElem_mem _
  have hop := ho l[k] hmem
  obtain ⟨hk1, hk2, hk3⟩ := hok l[k] hmem
  have HOP := Lib.hid hop
  have HK2 := Lib.hid hk2
  clear hop hk2 ho hok
  go_enter Try.func73, Try.ntmps73
  go_wp2_with fail
  refine (find_any l v x _ (hr.below (below1 w _)) hm).mono ?_
  rintro e w1 ⟨rfl, hb⟩
  rw [hn]
  have r0 := hb.cell (p := ⟨w.heap.size, 0, none⟩) (by simp)
  have hbw := below_then (below1 w _) hb
  obtain ⟨b, off, cap, hv, _, _, hb1, c0, c1, c2⟩ := (hr.below hbw).file k hk
  subst hv
  have HB := Lib.hid hb
  clear hb hn
  go_wp2_with fail
  refine (all_any _ _ _ _ _ (HOP.out.below hbw) (by omega) hk1 HK2.out).mono ?_
  rintro e w2 ⟨rfl, hb2⟩
  go_wp2_with fail
  go_ret2
  exact ⟨rfl, below_then hbw hb2⟩
end Go.Proofs.Ytkecjopojnllnaa
namespace Go.Proofs.Ytkecjopojnllnaa
open Go.RowKit Go.Deep Go.Joins
set_option maxRecDepth 100000 in
set_option maxHeartbeats 1000000 in
theorem same_true (l m : List Rw) (v u : Value) (w : World) (hl : Reads w v 3 l.length (rowCells l)) (ho : Opens w l) (hm : Reads w u 3 m.length (rowCells m)) (ho2 : Opens w m)
    (hc : l.map core = m.map core) (hb : l.length ≤ 9223372036854775807) (hbo : ∀ r ∈ l, r.opens.length ≤ 9223372036854775807) :
    Calls Try.prog 15 #[.agg #[v], .agg #[u]] w fun e w' => e = .returned (.bool true) ∧ Below w.heap.size w w' := by
  have hlen : m.length = l.length := by simpa using (congrArg List.length hc).symm
  obtain ⟨p, cap, rfl⟩ := hl.is
  obtain ⟨q, qc, hq⟩ := hm.is
  rw [hlen] at hq
  subst hq
  have HLM := Lib.hid hlen
  have HC := Lib.hid hc
  clear hlen hc
  go_enter Try.func15, Try.ntmps15
  go_wp2_with fail
  go_loopw [5] (fun j wr => ∃ i : Nat, i ≤ l.length ∧ j = .int .i64 i ∧ Hid (Below (w.heap.size + 2) ((w.alloc (.cells #[.slice p l.length cap] 24)).alloc (.cells #[.slice q l.length qc] 24)) wr)) (fun j _ => l.length - (intOf j).toNat)
  case atStart => exact ⟨0, Nat.zero_le _, rfl, Below.refl _ _⟩
  case round =>
    obtain ⟨i, hi, rfl, hbl⟩ := hrel
    obtain ⟨wo, hwo⟩ : ∃ wo, wo = wr := ⟨_, rfl⟩
    subst hwo
    have hbw : Below w.heap.size w wo := (below2 w _ _).trans (hbl.out.mono (by omega))
    have hsz := hbl.out.size
    simp only [World.size_alloc] at hsz
    have f0 : wo.cell? ⟨w.heap.size, 0, none⟩ = some (.slice p l.length cap) := (hbl.out.cell (p := ⟨w.heap.size, 0, none⟩) (by simp)).trans (by simp)
    have f1 : wo.cell? ⟨w.heap.size + 1, 0, none⟩ = some (.slice q l.length qc) := (hbl.out.cell (p := ⟨w.heap.size + 1, 0, none⟩) (by simp)).trans (by simp)
    have g0 : w.heap.size < wo.heap.size := by omega
    have g1 : w.heap.size + 1 < wo.heap.size := by omega
    by_cases hlt : i < l.length
    · have hlt' : i < m.length := by rw [HLM.out]; exact hlt
      obtain ⟨b1, off1, cap1, hv, _, _, hb1, c0, c1, c2⟩ := (hl.below hbw).file i hlt
      obtain ⟨rfl, rfl⟩ : p = some ⟨b1, off1, none⟩ ∧ cap = cap1 := by simpa using hv
      obtain ⟨b2, off2, cap2, hv2, _, _, hb2, d0, d1, d2⟩ := (hm.below hbw).file i hlt'
      rw [HLM.out] at hv2
      obtain ⟨rfl, rfl⟩ : q = some ⟨b2, off2, none⟩ ∧ qc = cap2 := by simpa using hv2
      obtain ⟨e0, e1, e2⟩ := core_at HC.out i hlt hlt'
      rw [e0] at d0
      rw [e1] at d1
      have hop := (ho l[i] (List.getElem_mem _)).below hbw
      have hop2 := (ho2 m[i] (List.getElem_mem _)).below hbw
      rw [e2] at hop2
      obtain ⟨p3, cap3, hov⟩ := hop.is
      obtain ⟨p4, cap4, hov2⟩ := hop2.is
      rw [hov] at c2 hop
      rw [hov2] at d2 hop2
      have HOP := Lib.hid hop
      have HOP2 := Lib.hid hop2
      have HBW := Lib.hid hbw
      have hbol := hbo l[i] (List.getElem_mem _)
      clear hov hov2 hop hop2 hv hv2 e0 e1 e2 hbw
      go_wp2_with fail
      go_region_held3 (fun w' => w'.cell? ⟨w.heap.size, 0, none⟩ = some (.slice (some ⟨b1, off1, none⟩) l.length cap) ∧ w'.cell? ⟨w.heap.size + 1, 0, none⟩ = some (.slice (some ⟨b2, off2, none⟩) l.length qc) ∧
        w'.cell? ⟨b1, off1 + i * 3, none⟩ = some (.string l[i].name) ∧ w'.cell? ⟨b1, off1 + i * 3 + 1, none⟩ = some (.string l[i].safe) ∧ w'.cell? ⟨b1, off1 + i * 3 + 2, none⟩ = some (.slice p3 l[i].opens.length cap3) ∧
        w'.cell? ⟨b2, off2 + i * 3, none⟩ = some (.string l[i].name) ∧ w'.cell? ⟨b2, off2 + i * 3 + 1, none⟩ = some (.string l[i].safe) ∧ w'.cell? ⟨b2, off2 + i * 3 + 2, none⟩ = some (.slice p4 l[i].opens.length cap4)) (go_keep) (fail)
      · go_wp2_with fail
        go_loopw [8] (fun j wr => ∃ k : Nat, k ≤ l[i].opens.length ∧ j = .int .i64 k ∧ Hid (Below (wo.heap.size + 2) ((wo.alloc (.cells #[.string l[i].name, .string l[i].safe, .slice p3 l[i].opens.length cap3] 58)).alloc (.cells #[.string l[i].name, .string l[i].safe, .slice p4 l[i].opens.length cap4] 58)) wr)) (fun j _ => l[i].opens.length - (intOf j).toNat)
        case atStart => exact ⟨0, Nat.zero_le _, rfl, (Below.refl _ _).drew⟩
        case round =>
          obtain ⟨k, hk, rfl, hb2'⟩ := hrel
          have hbx : Below wo.heap.size wo wr := (below2 wo _ _).trans (hb2'.out.mono (by omega))
          have hsx := hb2'.out.size
          simp only [World.size_alloc] at hsx
          have x2 : wr.cell? ⟨wo.heap.size, 2, none⟩ = some (.slice p3 l[i].opens.length cap3) := (hb2'.out.cell (p := ⟨wo.heap.size, 2, none⟩) (by simp)).trans (by simp)
          have y2 : wr.cell? ⟨wo.heap.size + 1, 2, none⟩ = some (.slice p4 l[i].opens.length cap4) := (hb2'.out.cell (p := ⟨wo.heap.size + 1, 2, none⟩) (by simp)).trans (by simp)
          have HBX := Lib.hid hbx
          clear c0 c1 c2 d0 d1 d2 f0 f1 hbx
          by_cases hlk : k < l[i].opens.length
          · obtain ⟨b3, off3, cap5, hv3, _, _, hb3, t0, t1⟩ := (HOP.out.below HBX.out).write k hlk
            obtain ⟨rfl, rfl⟩ : p3 = some ⟨b3, off3, none⟩ ∧ cap3 = cap5 := by simpa using hv3
            obtain ⟨b4, off4, cap6, hv4, _, _, hb4, s0, s1⟩ := (HOP2.out.below HBX.out).write k hlk
            obtain ⟨rfl, rfl⟩ : p4 = some ⟨b4, off4, none⟩ ∧ cap4 = cap6 := by simpa using hv4
            have HLK := Lib.hid hlk
            clear hv3 hv4
            go_wp2_with fail
            have z0 : ∀ p : Near wr, p.wx.cell? ⟨wo.heap.size, 2, none⟩ = some (.slice (some ⟨b3, off3, none⟩) l[i].opens.length cap3) := fun p => below_cell p.near x2
            have z1 : ∀ p : Near wr, p.wx.cell? ⟨wo.heap.size + 1, 2, none⟩ = some (.slice (some ⟨b4, off4, none⟩) l[i].opens.length cap4) := fun p => below_cell p.near y2
            have z2 : ∀ p : Near wr, p.wx.cell? ⟨b3, off3 + k * 2, none⟩ = some (.int .i64 l[i].opens[k].pos) := fun p => below_cell p.near t0
            have z3 : ∀ p : Near wr, p.wx.cell? ⟨b3, off3 + k * 2 + 1, none⟩ = some (.string l[i].opens[k].bytes) := fun p => below_cell p.near t1
            have z4 : ∀ p : Near wr, p.wx.cell? ⟨b4, off4 + k * 2, none⟩ = some (.int .i64 l[i].opens[k].pos) := fun p => below_cell p.near s0
            have z5 : ∀ p : Near wr, p.wx.cell? ⟨b4, off4 + k * 2 + 1, none⟩ = some (.string l[i].opens[k].bytes) := fun p => below_cell p.near s1
            have hne : Nonempty (Near wr) := ⟨⟨wr, Below.refl _ _⟩⟩
            refine wp_region_near (by kernel_rfl) (by kernel_rfl) ?_
            repeat (go_big_quiet_step (fail))
            refine wpQuiet_nil ?_
            rintro _ ⟨pn, rfl⟩
            go_wp2_with fail
            go_round
            case rel => exact ⟨k + 1, HLK.out, by go_num, hb2'.out.trans (pn.near.mono (by omega))⟩
            case measure => have := HLK.out; simp [intOf]; omega
          · go_wp2_with fail
            go_round
            case rel => exact ⟨i + 1, by omega, by go_num, hbl.out.trans (HBX.out.mono (by omega))⟩
            case measure => simp [intOf]; omega
      · go_wp2_with fail
        go_loopw [8] (fun j wr => ∃ k : Nat, k ≤ l[i].opens.length ∧ j = .int .i64 k ∧ Hid (Below (wo.heap.size + 2) ((wo.alloc (.cells #[.string l[i].name, .string l[i].safe, .slice p4 l[i].opens.length cap4] 58)).alloc (.cells #[.string l[i].name, .string l[i].safe, .slice p3 l[i].opens.length cap3] 58)) wr)) (fun j _ => l[i].opens.length - (intOf j).toNat)
        case atStart => exact ⟨0, Nat.zero_le _, rfl, (Below.refl _ _).drew⟩
        case round =>
          obtain ⟨k, hk, rfl, hb2'⟩ := hrel
          have hbx : Below wo.heap.size wo wr := (below2 wo _ _).trans (hb2'.out.mono (by omega))
          have hsx := hb2'.out.size
          simp only [World.size_alloc] at hsx
          have x2 : wr.cell? ⟨wo.heap.size + 1, 2, none⟩ = some (.slice p3 l[i].opens.length cap3) := (hb2'.out.cell (p := ⟨wo.heap.size + 1, 2, none⟩) (by simp)).trans (by simp)
          have y2 : wr.cell? ⟨wo.heap.size, 2, none⟩ = some (.slice p4 l[i].opens.length cap4) := (hb2'.out.cell (p := ⟨wo.heap.size, 2, none⟩) (by simp)).trans (by simp)
          have HBX := Lib.hid hbx
          clear c0 c1 c2 d0 d1 d2 f0 f1 hbx
          by_cases hlk : k < l[i].opens.length
          · obtain ⟨b3, off3, cap5, hv3, _, _, hb3, t0, t1⟩ := (HOP.out.below HBX.out).write k hlk
            obtain ⟨rfl, rfl⟩ : p3 = some ⟨b3, off3, none⟩ ∧ cap3 = cap5 := by simpa using hv3
            obtain ⟨b4, off4, cap6, hv4, _, _, hb4, s0, s1⟩ := (HOP2.out.below HBX.out).write k hlk
            obtain ⟨rfl, rfl⟩ : p4 = some ⟨b4, off4, none⟩ ∧ cap4 = cap6 := by simpa using hv4
            have HLK := Lib.hid hlk
            clear hv3 hv4
            go_wp2_with fail
            have z0 : ∀ p : Near wr, p.wx.cell? ⟨wo.heap.size + 1, 2, none⟩ = some (.slice (some ⟨b3, off3, none⟩) l[i].opens.length cap3) := fun p => below_cell p.near x2
            have z1 : ∀ p : Near wr, p.wx.cell? ⟨wo.heap.size, 2, none⟩ = some (.slice (some ⟨b4, off4, none⟩) l[i].opens.length cap4) := fun p => below_cell p.near y2
            have z2 : ∀ p : Near wr, p.wx.cell? ⟨b3, off3 + k * 2, none⟩ = some (.int .i64 l[i].opens[k].pos) := fun p => below_cell p.near t0
            have z3 : ∀ p : Near wr, p.wx.cell? ⟨b3, off3 + k * 2 + 1, none⟩ = some (.string l[i].opens[k].bytes) := fun p => below_cell p.near t1
            have z4 : ∀ p : Near wr, p.wx.cell? ⟨b4, off4 + k * 2, none⟩ = some (.int .i64 l[i].opens[k].pos) := fun p => below_cell p.near s0
            have z5 : ∀ p : Near wr, p.wx.cell? ⟨b4, off4 + k * 2 + 1, none⟩ = some (.string l[i].opens[k].bytes) := fun p => below_cell p.near s1
            have hne : Nonempty (Near wr) := ⟨⟨wr, Below.refl _ _⟩⟩
            refine wp_region_near (by kernel_rfl) (by kernel_rfl) ?_
            repeat (go_big_quiet_step (fail))
            refine wpQuiet_nil ?_
            rintro _ ⟨pn, rfl⟩
            go_wp2_with fail
            go_round
            case rel => exact ⟨k + 1, HLK.out, by go_num, hb2'.out.trans (pn.near.mono (by omega))⟩
            case measure => have := HLK.out; simp [intOf]; omega
          · go_wp2_with fail
            go_round
            case rel => exact ⟨i + 1, by omega, by go_num, hbl.out.trans (HBX.out.mono (by omega))⟩
            case measure => simp [intOf]; omega
    · have HB := Lib.hid hbw
      go_wp2
      go_ret
      exact ⟨rfl, HB.out⟩
end Go.Proofs.Ytkecjopojnllnaa
