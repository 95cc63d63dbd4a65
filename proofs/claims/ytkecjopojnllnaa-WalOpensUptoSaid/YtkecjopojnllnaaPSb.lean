/- The disk of the reference, and what of the disk the log calls (my own, from the seat of the disk): Sb. -/
import Derived.Test.YtkecjopojnllnaaPL
namespace Go.Proofs.Ytkecjopojnllnaa
open Go.RowKit Go.Deep Go.Joins
set_option maxRecDepth 100000 in
set_option maxHeartbeats 1000000 in
theorem laid_any (s : ByteArray) (pos : Int) (b : ByteArray) (w : World) (hs : s.size ≤ 1099511627776) (hb : b.size ≤ 1099511627776) :
    Calls Try.prog 68 #[.string s, .int .i64 pos, .string b] w fun e w' => e = .returned (.string (laidB s ⟨pos, b⟩)) ∧ Below w.heap.size w w' := by
  by_cases h0 : pos < 0
  · have hid := laidB_idle s ⟨pos, b⟩ (by simp [wk, worksB]; omega)
    rw [hid]
    go_enter Try.func68, Try.ntmps68
    go_wp2
    go_ret
    exact ⟨rfl, Below.refl _ _⟩
  by_cases h1 : 1048576 < pos
  · have hid := laidB_idle s ⟨pos, b⟩ (by simp [wk, worksB]; omega)
    rw [hid]
    go_enter Try.func68, Try.ntmps68
    go_wp2
    go_ret
    exact ⟨rfl, Below.refl _ _⟩
  by_cases h2 : b.size = 0
  · have h3 : b.toList.isEmpty = true := by
      rw [ByteArray.toList_eq, List.isEmpty_iff, ← List.length_eq_zero_iff, len_eq]
      exact h2
    have hid := laidB_idle s ⟨pos, b⟩ (by simp [wk, worksB, h3])
    rw [hid]
    have hz : ((b.size : Int) == 0) = true := by simp [h2]
    go_enter Try.func68, Try.ntmps68
    go_wp2
    go_ret
    exact ⟨rfl, Below.refl _ _⟩
  obtain ⟨t, rfl⟩ := Int.eq_ofNat_of_zero_le (show 0 ≤ pos by omega)
  have hw : wk ⟨(t : Int), b⟩ = true := wk_of (by omega) (by omega) (by omega)
  have hres : laidB s ⟨(t : Int), b⟩ = ⟨(spliceB (padTo s.data.toList (t + b.size)) t b).toArray⟩ := by
    unfold laidB laidL
    rw [if_pos hw]
    rfl
  have HRES := Lib.hid hres
  clear hres hw
  obtain ⟨i0, hi, hz0, hz1, hz2⟩ := info_parts (show (Try.prog.info? 5).map (fun i => (i.zero, i.size, i.bytes)) = some (some (.int .u8 0), 1, 1) by kernel_rfl)
  obtain ⟨cap, w1, hcv, hrow, hg1⟩ := run_bytes_row (P := Try.prog) w s 9 86 Try.underlying9 Try.underlying86 Try.underlying5
  have hsl : s.data.toList.length = s.size := len_eq s
  have HROW := Lib.hid hrow
  have hbw : Below w.heap.size w w1 := grown_below hg1
  have HBW := Lib.hid hbw
  have hlt1 : w.heap.size < w1.heap.size := hrow.lt
  have hzf : ((b.size : Int) == 0) = false := by rw [beq_eq_false_iff_ne]; omega
  clear hrow hg1 hbw
  go_enter Try.func68, Try.ntmps68
  go_wp2_with fail
  go_loopw [7] (fun u wr => ∃ (g cap : Nat) (k : Nat) (L : List UInt8), u = .slice (some ⟨g, 0, none⟩) L.length cap ∧ Hid (L = s.data.toList ++ List.replicate k 0) ∧ (k = 0 ∨ L.length ≤ t + b.size) ∧ L.length ≤ 4398046511104 ∧ Hid (RowB wr g cap L) ∧ w.heap.size ≤ g ∧ Hid (Below w.heap.size w wr)) (fun u _ => t + b.size - lenV u)
  case atStart => exact ⟨w.heap.size, cap, 0, s.data.toList, by rw [hsl], by show _ = _; simp, .inl rfl, by omega, HROW, Nat.le_refl _, HBW⟩
  case round =>
    obtain ⟨g, cp, k, L, rfl, hL, hk, hL2, hr, hgg, hbl⟩ := hrel
    have hglt := hr.out.lt
    have hlc : L.length ≤ cp := by obtain ⟨_, _, _, _, _, h, _⟩ := hr.out; exact h
    have hlen : L.length = s.size + k := by have := congrArg List.length hL.out; rw [List.length_append, List.length_replicate, hsl] at this; exact this
    have HLEN := Lib.hid hlen
    clear hlen
    by_cases hlt : L.length < t + b.size
    · have hra : ∀ a : Obj, RowB (wr.alloc a) g cp L := fun a => hr.out.of_eq (heap_alloc_old _ _ hglt)
      have HRA := Lib.hid hra
      clear hra
      go_wp2_with (at_builtin; refine wpList_append_byte rfl _ _ 86 rfl i0 (.int .u8 0) Try.underlying86 hi hz0 hz1 hz2 rfl g cp L rfl ?c1 ⟨wr.heap.size, 0, none⟩ 0 rfl ?c2 ?c3 ?_; rotate_right 1; intro g' cap' w5 hr5 hg5 hgr5)
      case c1 => exact HRA.out _
      case c2 => simp
      case c3 => omega
      go_roundw
      case rel =>
        refine ⟨g', cap', k + 1, L ++ [0], by simp, ?_, .inr (by simp; omega), by simp; omega, hr5, ?_, ?_⟩
        · show _ = _
          rw [hL.out, List.replicate_succ', List.append_assoc]
        · rcases hg5 with rfl | hg5
          · exact hgg
          · have := hbl.out.size; simp at hg5; omega
        · exact (hbl.out.alloc hbl.out.size _).grown hgr5 (by have := hbl.out.size; simp; omega) fun k hk => by cases hk; exact hgg
      case measure => simp [lenV]; omega
    · have hLp : L = padTo s.data.toList (t + b.size) := by
        have := HLEN.out
        rw [hL.out]
        unfold padTo
        rw [hsl]
        congr 2
        omega
      have HLP := Lib.hid hLp
      have htl : t ≤ L.length := by omega
      have htn : ¬ L.length = t := by omega
      clear hLp
      go_wp2_with (with_reducible refine wpList_copy_into (o := ⟨some 36, _, _, _, _, _⟩) rfl (.tmp 34) (.tmp 35) 86 9 rfl Try.underlying86 (by kernel_rfl) g cp t b L (cp - t) rfl rfl ?d1 ?d2 ?_; rotate_right 1; intro w6 hr6 hg6; have hcv2 := run_row_string (P := Try.prog) w6 86 9 g cp _ Try.underlying86 Try.underlying5 Try.underlying9 hr6.out; rw [show (spliceB L t b).length = L.length from (by unfold spliceB; exact length_splice _ _ _ (by rw [len_eq]; omega))] at hcv2)
      case d1 => exact hr.out
      case d2 => omega
      go_ret
      refine ⟨ret_string (by rw [HRES.out, ← HLP.out]), hbl.out.grown hg6 hbl.out.size fun k hk => by cases hk; exact hgg⟩
end Go.Proofs.Ytkecjopojnllnaa
