/- Members of the reference. -/
import Derived.Test.YthlghmechldegaaYC
namespace Go.Proofs.Ythlghmechldegaa
open Go.RowKit Go.Deep Go.Joins
set_option maxRecDepth 100000
theorem upN_iff (l : Lg) (L : List En) (i : Int) (k : Nat) : k < upN l L i ↔ k < L.length ∧ l.base + (k : Int) + 1 ≤ i := by
  unfold upN
  split <;> constructor <;> intro h <;> omega
set_option maxHeartbeats 4000000 in
theorem rmembers_any (l : Lg) (L : List En) (i : Int) (W : World) (hl : EAt W l.lv L) (h0 : 0 ≤ l.base) (h1 : l.base ≤ 1152921504606846976) (hi0 : 0 ≤ i) (hi1 : i < 18446744073709551616) (hlen : L.length ≤ 1152921504606846976) : Calls Try.prog 18 #[lgV l, .int .u64 i] W fun r W' => r = .returned (setV (memV l L i)) ∧ Below W.heap.size W W' := by
  obtain ⟨q, c, hq⟩ := hl.is
  obtain ⟨base, bt, s, lv⟩ := l
  dsimp only at hl hq h0 h1
  subst hq
  have HL := Lib.hid hl
  obtain ⟨hc1, hc2⟩ := hl.cap
  unfold maxLen at hc2
  clear hl
  have hn := upN_le ⟨base, bt, s, .slice q L.length c⟩ L i
  unfold memV
  dsimp only
  have HI := Lib.hid (fun k => upN_iff ⟨base, bt, s, .slice q L.length c⟩ L i k)
  dsimp only at HI
  generalize upN ⟨base, bt, s, .slice q L.length c⟩ L i = n at *
  go_enter Try.func18, Try.ntmps18
  have HS0 := Lib.hid (show (Instr.loadAt 24 (.pointer (some ⟨W.heap.size, 2, none⟩))).run Try.prog ((W.alloc (lgO ⟨base, bt, s, .slice q L.length c⟩)).alloc (Obj.cells noC 24)) = .ok (setV s) _ from LBox.set (LBox.next (LBox.new W ⟨base, bt, s, .slice q L.length c⟩) (below1 _ _)))
  have HS1 := Lib.hid (show (Instr.storeAt 24 (.pointer (some ⟨W.heap.size + 1 + 1, 0, none⟩)) (setV s)).run Try.prog (((W.alloc (lgO ⟨base, bt, s, .slice q L.length c⟩)).alloc (Obj.cells noC 24)).alloc (Obj.cells noC 24)) = .ok () (((W.alloc (lgO ⟨base, bt, s, .slice q L.length c⟩)).alloc (Obj.cells noC 24)).alloc (setO s)) from set_new2 _ _ _ _)
  go_upto_region 2 with (first | (with_reducible refine wpList_load_by rfl rfl HS0.out rfl ?_) | (with_reducible refine wpList_store_by rfl rfl HS1.out rfl rfl ?_) | fail)
  clear HS0 HS1
  have X := Lib.hid (show Mm W (((W.alloc (lgO ⟨base, bt, s, .slice q L.length c⟩)).alloc (Obj.cells noC 24)).alloc (setO s)) ⟨base, bt, s, .slice q L.length c⟩ noF s from Mm.start W _ noF s)
  generalize ((W.alloc (lgO ⟨base, bt, s, .slice q L.length c⟩)).alloc (Obj.cells noC 24)).alloc (setO s) = w0 at *
  try simp only [put_none]
  go_wp2
  go_loopw [6] (fun j wr => ∃ (k : Nat), k ≤ n ∧ j = .int .i64 k ∧ RowKit.Hid (Mm W wr ⟨base, bt, s, .slice q L.length c⟩ noF (memF s (L.take k)))) (fun j _ => n - (intOf j).toNat)
  case atStart => exact ⟨0, by omega, rfl, X⟩
  case round =>
    obtain ⟨k, hk, rfl, HX⟩ := hrel
    clear X
    have X := HX
    clear HX
    have hkk := HI.out k
    by_cases hlt : k < n
    · obtain ⟨hkL, hkb⟩ := hkk.1 hlt
      clear hkk
      have q5 : decide ((k : Int) < L.length) = true := decide_eq_true (by omega)
      have q7 : decide (base + (k : Int) + 1 ≤ i) = true := decide_eq_true hkb
      obtain ⟨g, off, hqq, hc⟩ := ent_at HL.out (by omega)
      subst hqq
      have hix : ∀ w : World, (Instr.indexAt 25 (.slice (some ⟨g, off, none⟩) L.length c) (.int .i64 (k : Int))).run Try.prog w = .ok (.pointer (some ⟨g, off + k * 13, none⟩)) w := fun w => run_idx w g off _ c k hkL
      have HK := Lib.hid (kind_load wr g _ _ (hc k hkL wr X.out.below))
      have HS := Lib.hid (eset_load wr g _ _ (hc k hkL wr X.out.below))
      have HM := Lib.hid (memF_next s L k hkL)
      clear hc
      generalize L[k] = e at *
      generalize memF s (L.take k) = f at *
      by_cases hk2 : e.kind = 2
      · have q6 : (e.kind == 2) = true := by rw [beq_iff_eq]; exact hk2
        rw [if_pos hk2] at HM
        have X3 := Lib.hid (X.out.put e.s)
        rw [← HM.out] at X3
        go_wp2_with (first | (with_reducible refine wpList_load_by rfl rfl X.out.box.list rfl ?_) | (with_reducible refine wpList_load_wanted rfl rfl X.out.box.base rfl ?_) | (with_reducible refine wpList_load_by rfl rfl HK.out rfl ?_) | (with_reducible refine wpList_load_by rfl rfl HS.out rfl ?_) | (with_reducible refine wpList_store_by rfl rfl (X.out.m.full _) rfl rfl ?_) | fail)
        go_round
        case rel => exact ⟨k + 1, by omega, rfl, by rw [← HM.out]; exact X3⟩
        case measure => simp [intOf]; omega
      · have q6 : (e.kind == 2) = false := by rw [beq_eq_false_iff_ne]; exact hk2
        rw [if_neg hk2] at HM
        rw [← HM.out] at X
        go_wp2_with (first | (with_reducible refine wpList_load_by rfl rfl X.out.box.list rfl ?_) | (with_reducible refine wpList_load_wanted rfl rfl X.out.box.base rfl ?_) | (with_reducible refine wpList_load_by rfl rfl HK.out rfl ?_) | fail)
        go_round
        case rel => exact ⟨k + 1, by omega, rfl, X⟩
        case measure => simp [intOf]; omega
    · obtain rfl : k = n := by omega
      have X2 := Lib.hid (X.out.tell (memF s (L.take k)))
      by_cases hkL : k < L.length
      · have q5 : decide ((k : Int) < L.length) = true := decide_eq_true (by omega)
        have q7 : decide (base + (k : Int) + 1 ≤ i) = false := decide_eq_false (fun h => hlt (hkk.2 ⟨hkL, h⟩))
        clear hkk
        go_wp2_with (first | (with_reducible refine wpList_load_by rfl rfl X.out.box.list rfl ?_) | (with_reducible refine wpList_load_wanted rfl rfl X.out.box.base rfl ?_) | (with_reducible refine wpList_load_by rfl rfl X.out.m.load rfl ?_) | (with_reducible refine wpList_store_by rfl rfl (X.out.res.full _) rfl rfl ?_) | fail)
        exact bodyPost_ret (v := setV (memF s (L.take k))) (results_cell_row Try.results18 _ _ (W.heap.size + 1) 24 (setC _) (0, 0) _ rfl X2.out.res Try.underlying24 rfl (by rw [size24, setC_size])) rfl ⟨rfl, X2.out.below⟩
      · have q5 : decide ((k : Int) < L.length) = false := decide_eq_false (by omega)
        clear hkk
        go_wp2_with (first | (with_reducible refine wpList_load_by rfl rfl X.out.box.list rfl ?_) | (with_reducible refine wpList_load_wanted rfl rfl X.out.box.base rfl ?_) | (with_reducible refine wpList_load_by rfl rfl X.out.m.load rfl ?_) | (with_reducible refine wpList_store_by rfl rfl (X.out.res.full _) rfl rfl ?_) | fail)
        exact bodyPost_ret (v := setV (memF s (L.take k))) (results_cell_row Try.results18 _ _ (W.heap.size + 1) 24 (setC _) (0, 0) _ rfl X2.out.res Try.underlying24 rfl (by rw [size24, setC_size])) rfl ⟨rfl, X2.out.below⟩
end Go.Proofs.Ythlghmechldegaa
