/- The disk of the reference, and what of the disk the log calls (my own, from the seat of the disk): D. -/
import Derived.Test.YtkecjopojnllnaaPB
namespace Go.Proofs.Ytkecjopojnllnaa
open Go.RowKit Go.Deep Go.Joins
theorem make_bytes (n : Nat) (h : n ≤ 140737489403904) : ∀ u : World, (Instr.makeSlice 86 (.int .i64 (n : Int)) (.int .i64 (n : Int))).run Try.prog u =
      .ok (.slice (some ⟨u.heap.size, 0, none⟩) n n) (u.alloc (.cells (bcells (List.replicate n 0)) 5)) := fun u => by
  obtain ⟨i0, hi, hz0, hz1, hz2⟩ := info_parts (show (Try.prog.info? 5).map (fun i => (i.zero, i.size, i.bytes)) = some (some (.int .u8 0), 1, 1) by kernel_rfl)
  have h := run_make (P := Try.prog) u 86 5 i0 (.int .u8 0) Try.underlying86 hi hz0 .i64 .i64 (n : Int) (n : Int) (by omega) (Int.le_refl _) (by rw [hz2]; omega) (by omega)
  rw [Int.toNat_natCast] at h
  rw [← made_bytes]
  simpa [hz1, Value.cells] using h
set_option maxHeartbeats 1000000 in
set_option maxRecDepth 100000 in
theorem lay_nil (s : ByteArray) (v : Value) (w : World) (hr : Reads w v 2 0 []) :
    Calls Try.prog 86 #[.string s, v] w fun e w' => e = .returned (.string (layB s [])) ∧ Below w.heap.size w w' := by
  obtain ⟨p, cap, rfl⟩ := hr.is
  have e : layB s [] = s := rfl
  rw [e]
  go_enter Try.func86, Try.ntmps86
  go_wp2
  go_ret
  exact ⟨rfl, Below.refl _ _⟩
set_option maxRecDepth 100000 in
set_option maxHeartbeats 400000 in
theorem lay_some (s : ByteArray) (l : List Wr) (v : Value) (w : World) (hr : Reads w v 2 l.length (wrCells l)) (h0 : 0 < l.length) (hm : l.length ≤ 9223372036854775807)
    (hs : s.size ≤ 140737489403904) (hb : ∀ x ∈ l, x.bytes.size ≤ 140737488355328) :
    Calls Try.prog 86 #[.string s, v] w fun e w' => e = .returned (.string (layB s l)) ∧ Below w.heap.size w w' := by
  obtain ⟨p, cap, rfl⟩ := hr.is
  have hc0 : ((l.length : Int) == 0) = false := by rw [beq_eq_false_iff_ne]; omega
  go_enter Try.func86, Try.ntmps86
  go_wp2
  go_loopw [5, 19] (fun n i wr => ∃ k : Nat, k ≤ l.length ∧ i = .int .i64 k ∧ n = .int .i64 (sizeUp s.size (l.take k)) ∧ sizeUp s.size (l.take k) ≤ 140737489403904 ∧ Below w.heap.size w wr) (fun _ i _ => l.length - (intOf i).toNat)
  case atStart => exact ⟨0, Nat.zero_le _, rfl, rfl, hs, Below.refl _ _⟩
  case round =>
    obtain ⟨k, hk, rfl, rfl, hsz, hbl⟩ := hrel
    by_cases hlt : k < l.length
    · obtain ⟨b1, off1, cap1, hv, _, _, hb1, c0, c1⟩ := (hr.below hbl).write k hlt
      obtain ⟨rfl, rfl⟩ : p = some ⟨b1, off1, none⟩ ∧ cap = cap1 := by simpa using hv
      have hbb := hb l[k] (List.getElem_mem _)
      have hsu := foldl_take_succ grow s.size l k hlt
      have HSU : Hid (sizeUp s.size (l.take (k + 1)) = grow (sizeUp s.size (l.take k)) l[k]) := hsu
      clear hsu hr hv
      have HB := Lib.hid hbl
      clear hbl
      generalize hN : sizeUp s.size (l.take k) = N at *
      have HN := Lib.hid hN
      clear hN
      rcases Bool.eq_false_or_eq_true (worksB l[k].pos l[k].bytes) with hw | hw
      · obtain ⟨p0, p1, p2⟩ := wk_pos (x := l[k]) hw
        obtain ⟨t, ht⟩ := Int.eq_ofNat_of_zero_le p0
        rw [ht] at c0 hw p1
        by_cases hcmp : N < t + l[k].bytes.size
        · have hg : grow N l[k] = t + l[k].bytes.size := by unfold grow wk; rw [ht, hw, if_pos rfl]; simp [hcmp]
          have HG := Lib.hid hg
          clear hg
          go_wp2_with (go_at_call 88; refine (works_any _ _ _).mono ?_; rintro e w1 ⟨rfl, hb2⟩; have d0 := hb2.cell (p := ⟨wr.heap.size, 0, none⟩) (by simp); have d1 := hb2.cell (p := ⟨wr.heap.size, 1, none⟩) (by simp))
          go_roundw
          case rel => exact ⟨k + 1, by omega, by go_num, by rw [HSU.out, HG.out]; try go_num, by rw [HSU.out, HG.out]; omega, HB.out.trans ((below_then (below1 _ _) hb2).mono HB.out.size)⟩
          case measure => simp [intOf]; omega
        · have hg : grow N l[k] = N := by unfold grow wk; rw [ht, hw, if_pos rfl]; simp; omega
          have HG := Lib.hid hg
          clear hg
          go_wp2_with (go_at_call 88; refine (works_any _ _ _).mono ?_; rintro e w1 ⟨rfl, hb2⟩; have d0 := hb2.cell (p := ⟨wr.heap.size, 0, none⟩) (by simp); have d1 := hb2.cell (p := ⟨wr.heap.size, 1, none⟩) (by simp))
          go_roundw
          case rel => exact ⟨k + 1, by omega, by go_num, by rw [HSU.out, HG.out]; try go_num, by rw [HSU.out, HG.out]; omega, HB.out.trans ((below_then (below1 _ _) hb2).mono HB.out.size)⟩
          case measure => simp [intOf]; omega
      · go_wp2_with (go_at_call 88; refine (works_any _ _ _).mono ?_; rintro e w1 ⟨rfl, hb2⟩)
        go_roundw
        case rel => exact ⟨k + 1, by omega, by go_num, by rw [HSU.out]; simp [grow, wk, hw], by rw [HSU.out]; simpa [grow, wk, hw] using hsz, HB.out.trans ((below_then (below1 _ _) hb2).mono HB.out.size)⟩
        case measure => simp [intOf]; omega
    · obtain rfl : k = l.length := by omega
      rw [List.take_length] at hsz ⊢
      clear hk
      generalize hN : sizeUp s.size l = N at *
      have HN := Lib.hid hN
      clear hN
      have hsN : s.size ≤ N := by rw [← HN.out]; exact sizeUp_ge _ _
      have hhas : ∀ x ∈ l, wk x = true → x.pos.toNat + x.bytes.size ≤ N := fun x hx hw => by rw [← HN.out]; exact sizeUp_has _ _ _ hx hw
      have Hhas := Lib.hid hhas
      clear hhas
      have hmk := make_bytes N (by omega)
      have HB := Lib.hid hbl
      clear hbl
      obtain ⟨L0, hL0⟩ : ∃ L0, L0 = spliceB (List.replicate N 0) 0 s := ⟨_, rfl⟩
      have hl0 : L0.length = N := by rw [hL0]; unfold spliceB; rw [length_splice _ _ _ (by rw [len_eq]; simpa using hsN)]; simp
      have HL0 := Lib.hid hL0
      have Hl0 := Lib.hid hl0
      clear hL0 hl0
      obtain ⟨wo, rfl⟩ : ∃ wo : World, wo = wr := ⟨_, rfl⟩
      go_wp2_with (refine wpList_copy_string (o := ⟨some 38, _, _, _, _, _⟩) rfl (.tmp 36) (.tmp 37) 86 9 rfl 5 Try.underlying86 (by kernel_rfl) N N wo.heap.size 0 ?hd s ?hs (List.replicate N 0) 5 ?hrow ?hn ?hfit w.heap.size w ?hbb ?hBg ?_; rotate_right 1; intro w2 hg2 hb2)
      case hd => rfl
      case hs => rfl
      case hrow => exact heap_alloc_new _ _
      case hn => exact hsN
      case hfit => simpa using hsN
      case hbb => exact HB.out.alloc HB.out.size _
      case hBg => exact HB.out.size
      rw [← HL0.out] at hg2
      have hgs := HB.out.size
      have hs2 : wo.heap.size < w2.heap.size := (Array.getElem?_eq_some_iff.1 hg2.out).1
      clear HB
      go_loopw [41] (fun i w3 => ∃ k : Nat, k ≤ l.length ∧ i = .int .i64 k ∧ Hid (w3.heap[wo.heap.size]? = some (.cells (bcells (overAll L0 (l.take k))) 5 (0, 0))) ∧ (overAll L0 (l.take k)).length = N ∧ wo.heap.size < w3.heap.size ∧ Below w.heap.size w w3) (fun i _ => l.length - (intOf i).toNat)
      case atStart => exact ⟨0, Nat.zero_le _, rfl, hg2, Hl0.out, hs2, hb2⟩
      case round =>
        obtain ⟨k, hk, rfl, hrow, hlen, hs3, hbl⟩ := hrel
        by_cases hlt : k < l.length
        · obtain ⟨b1, off1, cap1, hv, _, _, hb1, c0, c1⟩ := (hr.below hbl).write k hlt
          obtain ⟨rfl, rfl⟩ : p = some ⟨b1, off1, none⟩ ∧ cap = cap1 := by simpa using hv
          have hbb := hb l[k] (List.getElem_mem _)
          have hsu := foldl_take_succ over L0 l k hlt
          have HSU : Hid (overAll L0 (l.take (k + 1)) = over (overAll L0 (l.take k)) l[k]) := hsu
          have hfits := Hhas.out l[k] (List.getElem_mem _)
          clear hsu hr hv
          have HB := Lib.hid hbl
          clear hbl
          generalize hM : overAll L0 (l.take k) = M at *
          clear hM
          have Hlen := Lib.hid hlen
          clear hlen
          rcases Bool.eq_false_or_eq_true (worksB l[k].pos l[k].bytes) with hw | hw
          · obtain ⟨p0, p1, p2⟩ := wk_pos (x := l[k]) hw
            have hfit2 := hfits hw
            clear hfits
            have ho : over M l[k] = spliceB M l[k].pos.toNat l[k].bytes := by unfold over wk; rw [if_pos hw]
            have HO := Lib.hid ho
            clear ho
            obtain ⟨t, ht⟩ := Int.eq_ofNat_of_zero_le p0
            rw [ht] at c0 hw p1 hfit2 HO
            rw [Int.toNat_natCast] at hfit2 HO
            have Ht := Lib.hid ht
            clear ht p0
            go_wp2_with (go_at_call 88; refine (works_any _ _ _).mono ?_; rintro e w4 ⟨rfl, hb4⟩; have d0 := hb4.cell (p := ⟨wr.heap.size, 0, none⟩) (by simp); have d1 := hb4.cell (p := ⟨wr.heap.size, 1, none⟩) (by simp))
            have hB4 := below_then (below1 _ _) hb4
            have hrow4 : Hid (w4.heap[wo.heap.size]? = some (.cells (bcells M) 5 (0, 0))) := (hB4.block _ hs3).trans hrow.out
            have HB4 := Lib.hid (HB.out.trans (hB4.mono HB.out.size))
            clear hB4 hb4
            have hl2 : (over M l[k]).length = N := by rw [HO.out]; unfold spliceB; rw [length_splice _ _ _ (by rw [len_eq, Hlen.out]; exact hfit2), Hlen.out]
            have Hl2 := Lib.hid hl2
            clear hl2
            have htN : t ≤ N := by omega
            have htn : ¬ N = t := by omega
            go_region_law (refine step_copy_string (o := ⟨some 53, _, _, _, _, _⟩) rfl (.tmp 50) (.tmp 52) 86 9 rfl 5 Try.underlying86 (by kernel_rfl) (N - t) (N - t) wo.heap.size t ?hd l[k].bytes ?hs M 5 ?hrow ?hn ?hfit w.heap.size w ?hbb ?hBg ?_; (case hd => rfl); (case hs => rfl); (case hrow => exact hrow4.out); (case hn => omega); (case hfit => rw [Hlen.out]; exact hfit2); (case hbb => exact HB4.out.drew); (case hBg => exact hgs); intro w5 hg5 hb5)
            all_goals
              go_wp2_with fail
              go_roundw
              case rel => exact ⟨k + 1, by omega, by go_num, show _ = _ by rw [HSU.out, HO.out]; exact hg5.out, by rw [HSU.out]; exact Hl2.out, (Array.getElem?_eq_some_iff.1 hg5.out).1, hb5⟩
              case measure => simp [intOf]; omega
          · go_wp2_with (go_at_call 88; refine (works_any _ _ _).mono ?_; rintro e w4 ⟨rfl, hb4⟩)
            have ho : over M l[k] = M := by unfold over wk; rw [hw]; rfl
            have hB4 := below_then (below1 _ _) hb4
            go_roundw
            case rel => exact ⟨k + 1, by omega, by go_num, show _ = _ by rw [HSU.out, ho]; exact (hB4.block _ hs3).trans hrow.out, by rw [HSU.out, ho]; exact Hlen.out, Nat.lt_of_lt_of_le hs3 hB4.size, HB.out.trans (hB4.mono HB.out.size)⟩
            case measure => simp [intOf]; omega
        · obtain rfl : k = l.length := by omega
          rw [List.take_length] at hrow hlen
          have hcv := run_string_of_row (P := Try.prog) wr 86 9 5 wo.heap.size N N (overAll L0 l) 5 (0, 0) Try.underlying86 Try.underlying5 Try.underlying9 hrow.out hlen
          have HB := Lib.hid hbl
          clear hbl
          have hfin : layB s l = ⟨(overAll L0 l).toArray⟩ := by unfold layB; rw [if_neg (by omega), HN.out, ← HL0.out]
          have Hfin := Lib.hid hfin
          clear hfin
          go_wp2_with fail
          go_ret
          exact ⟨ret_string Hfin.out.symm, HB.out⟩
end Go.Proofs.Ytkecjopojnllnaa
