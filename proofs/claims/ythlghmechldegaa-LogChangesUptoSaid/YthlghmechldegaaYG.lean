/- A part of a log's list, the reference's. -/
import Derived.Test.YthlghmechldegaaYF
namespace Go.Proofs.Ythlghmechldegaa
open Go.RowKit Go.Deep Go.Joins
set_option maxRecDepth 100000
theorem build_ent (w : World) (e : En) : (Instr.buildSlice 25 1 #[(0, enV e)]).run Try.prog w = .ok (.slice (some ⟨w.heap.size, 0, none⟩) 1 1) (w.alloc (.cells (enC e) 36)) := by
  obtain ⟨t, k, ⟨id, g, d, x⟩, s⟩ := e
  kernel_rfl
theorem wpList_build {w w' : World} {ops : Array Oper} {rest : List Oper} {o : Oper} {a : Act} {Q : Exit → Act → World → Prop} {t : TypeId} {n : Nat} {x : Operand} {v r : Value} (hgd : o.guard = none) (ho : o.op = .buildSlice t n #[(0, x)]) (hrun : (Instr.buildSlice t n #[(0, v)]).run Try.prog w = .ok r w') (hx : a.eval x = v)
    (h : wpList Try.prog ops Q rest (a.put o.dst r) w') : wpList Try.prog ops Q (o :: rest) a w := by
  refine wpList_plain hgd fun K hK => ?_
  unfold Oper.wp
  have e : (execOp a.eval o).run Try.prog w = .ok (.value r) w' := by
    unfold execOp
    simp [ho, hx, hrun, Result.andThen]
  rw [e]
  exact hK _ _ h
theorem enL_one (e : En) : ∀ u ∈ enL e, u.oneCell' = true := by
  intro u he
  simp only [enL, List.mem_cons, List.not_mem_nil, or_false] at he
  rcases he with rfl | rfl | rfl | rfl | rfl | rfl | rfl | rfl | rfl | rfl | rfl | rfl | rfl <;> rfl
theorem eC_single (e : En) : eC [e] = enL e := by
  unfold eC
  rw [List.flatMap_cons, List.flatMap_nil, List.append_nil]
/-- One entry more behind a list of one's own. -/
theorem append_ent (w : World) {B k c : Nat} {q : Option Addr} {M : List En} (e : En) (h : w.ownsRow B 36 13 (.slice q k c) k (eC M)) (hB : B ≤ w.heap.size) (hn : (k + 1) * 64 ≤ 140737488355328) :
    ∃ q2 c2 w2, (Builtin.append_ #[25, 25] 25 #[.slice q k c, .slice (some ⟨w.heap.size, 0, none⟩) 1 1]).run Try.prog (w.alloc (.cells (enC e) 36)) = .ok (.slice q2 (k + 1) c2) w2 ∧ w2.ownsRow B 36 13 (.slice q2 (k + 1) c2) (k + 1) (eC (M ++ [e])) ∧ Below B w w2 := by
  obtain ⟨ii, hi, hz, hs, hby⟩ := info36
  have hb := below1 w (.cells (enC e) 36)
  have h1 := owns_below h hb
  have hr : Reads (w.alloc (.cells (enC e) 36)) (.slice (some ⟨w.heap.size, 0, none⟩) 1 1) 13 1 (enL e) := by
    refine ⟨rfl, .inr ⟨⟨w.heap.size, 0, none⟩, 1, rfl, Nat.le_refl _, by unfold maxLen; decide, fun j u hu => ?_⟩⟩
    rw [add_lit, Nat.zero_add, cell_of_row _ _ _ _ 36 (0, 0) (heap_alloc_new w _), enC_at]
    exact hu
  have hsz : B ≤ (w.alloc (.cells (enC e) 36)).heap.size := Nat.le_trans hB hb.size
  obtain ⟨q2, c2, w2, hrun, ho2, ht⟩ := app_row (ty := 25) Try.underlying25 hi hz hs hby rfl (by omega) h1 hr (enL_one e) (by unfold maxLen; omega) hn hsz
  refine ⟨q2, c2, w2, hrun, ?_, ?_⟩
  · rw [eC_append, eC_single]
    exact ho2
  · exact Touch.below (hb.mono hB) ht (fun g hg => (owns_lt h1 hg.symm).1) hsz
theorem slV_at (l : Lg) (L : List En) (i most : Int) (k : Nat) (hk : k ≤ (slV l L i most).length) (hm : (k : Int) < most) :
    (∀ h : k < (slV l L i most).length, atV l L (i + k) = ((slV l L i most)[k], true)) ∧ (¬ k < (slV l L i most).length → (atV l L (i + k)).2 = false) := by
  by_cases hc : (atV l L i).2 = true ∧ 1 ≤ most
  · have e : slV l L i most = (L.drop (i - l.base - 1).toNat).take most.toNat := if_pos hc
    obtain ⟨h1, h2⟩ := hc
    have hr : l.base < i ∧ i - l.base ≤ L.length := by
      unfold atV at h1
      split at h1
      · rename_i hh; exact hh
      · cases h1
    rw [e] at hk
    have hl : ((L.drop (i - l.base - 1).toNat).take most.toNat).length = min most.toNat (L.length - (i - l.base - 1).toNat) := by simp
    rw [hl] at hk
    refine ⟨fun h => ?_, fun h => ?_⟩
    · have h' : k < min most.toNat (L.length - (i - l.base - 1).toNat) := by rw [e, hl] at h; exact h
      have hcond : l.base < i + k ∧ i + k - l.base ≤ L.length := by omega
      unfold atV
      rw [dif_pos hcond]
      congr 1
      simp only [e]
      simp only [List.getElem_take, List.getElem_drop]
      congr 1
      omega
    · have h' : ¬ k < min most.toNat (L.length - (i - l.base - 1).toNat) := by rw [e, hl] at h; exact h
      unfold atV
      rw [dif_neg (by omega)]
  · have e : slV l L i most = [] := if_neg hc
    rw [e] at hk
    obtain rfl : k = 0 := by simpa using hk
    refine ⟨fun h => by rw [e] at h; exact absurd h (by simp), fun _ => ?_⟩
    have h1 : (atV l L i).2 ≠ true := fun h => hc ⟨h, by omega⟩
    simpa using h1
theorem slV_len (l : Lg) (L : List En) (i most : Int) (h : 0 < (slV l L i most).length) : i - l.base ≤ L.length ∧ l.base < i := by
  by_cases hc : (atV l L i).2 = true ∧ 1 ≤ most
  · have h1 := hc.1
    unfold atV at h1
    split at h1
    · rename_i hh; exact ⟨hh.2, hh.1⟩
    · cases h1
  · have e : slV l L i most = [] := if_neg hc
    rw [e] at h
    exact absurd h (by simp)
theorem slV_most (l : Lg) (L : List En) (i most : Int) : (slV l L i most).length ≤ most.toNat := by
  unfold slV
  split
  · simp; omega
  · simp
set_option maxHeartbeats 4000000 in
theorem rslice_any (l : Lg) (L : List En) (i most : Int) (W : World) (hl : EAt W l.lv L) (h0 : 0 ≤ l.base) (h1 : l.base ≤ 1152921504606846976) (hi0 : 0 ≤ i) (hi1 : i < 18446744073709551616) (hlen : L.length ≤ 1152921504606846976) (hm : most ≤ 600) : Calls Try.prog 23 #[lgV l, .int .u64 i, .int .i64 most] W (Told W (slV l L i most)) := by
  have HA := Lib.hid (fun k hk hm => slV_at l L i most k hk hm)
  have HLL := Lib.hid (fun h => slV_len l L i most h)
  have HMM := Lib.hid (slV_most l L i most)
  have CA := Lib.hid (fun w (hw : Below W.heap.size W w) j (hj0 : 0 ≤ j) (hj1 : j < 18446744073709551616) => rat_any l L j w (hl.below hw) h0 h1 hj0 hj1 hlen)
  clear hl
  generalize slV l L i most = X at *
  go_enter Try.func23, Try.ntmps23
  go_upto_region 1 with (fail)
  have B := Lib.hid (Lb.start W l)
  generalize W.alloc (lgO l) = w0 at *
  go_wp2
  go_loopw [7, 8] (fun v j wr => ∃ (k : Nat) (q : Option Addr) (c : Nat), k ≤ X.length ∧ v = .slice q k c ∧ j = .int .u64 (i + k) ∧ RowKit.Hid (wr.ownsRow (W.heap.size + 1) 36 13 (.slice q k c) k (eC (X.take k))) ∧ RowKit.Hid (Lb W wr l)) (fun v _ _ => X.length - (match v with | .slice _ n _ => n | _ => 0))
  case atStart => exact ⟨0, none, 0, by omega, rfl, by simp, Lib.hid (by simpa [eC] using World.ownsRow_nil _ _ _ _), B⟩
  case round =>
    obtain ⟨k, q, c, hk, rfl, rfl, HO, HB⟩ := hrel
    clear B
    have B := HB
    clear HB
    by_cases hkm : (k : Int) < most
    · have q5 : decide ((k : Int) < most) = true := decide_eq_true hkm
      have hik : i + (k : Int) + 1 < 18446744073709551616 ∨ k = 0 := by
        rcases Nat.eq_zero_or_pos k with h | h
        · exact .inr h
        · have := HLL.out (by omega)
          have := HMM.out
          left
          omega
      have CB := Lib.hid (CA.out wr B.out.below (i + k) (by omega) (by omega))
      obtain ⟨hA1, hA2⟩ := HA.out k hk hkm
      by_cases hlt : k < X.length
      · have hlim := HLL.out (by omega)
        have hmm := HMM.out
        have hik2 : i + (k : Int) + 1 < 18446744073709551616 := by omega
        have HE := hA1 hlt
        rw [HE] at CB
        have HT := Lib.hid (show X.take (k + 1) = X.take k ++ [X[k]] from List.take_succ_eq_append_getElem hlt)
        clear hA1 hA2 HE hik
        dsimp only at CB
        generalize X[k] = e at *
        go_upto_region 6 with (first | (with_reducible refine wpList_load_by rfl rfl B.out.box.load rfl ?_) | (go_at_call 14; (with_reducible refine CB.out.mono ?_); rintro r wb ⟨rfl, kk⟩; have B := Lib.hid (B.out.next kk); have HO := Lib.hid (owns_below HO.out kk); clear kk) | (with_reducible refine wpList_store_by rfl rfl (ent_new _ _) rfl rfl ?_) | fail)
        have B := Lib.hid (B.out.next (below1 wb (enO e)))
        have E := Lib.hid (EBox.new wb e)
        have HO := Lib.hid (owns_below HO.out (below1 wb (enO e)))
        generalize wb.heap.size = z at *
        generalize wb.alloc (enO e) = w5 at *
        clear CB
        obtain ⟨q2, c2, w6, hrun, ho2, hb6⟩ := append_ent w5 e HO.out (Nat.succ_le_of_lt B.out.box.lt) (by omega)
        have HR := Lib.hid hrun
        rw [← HT.out] at ho2
        have HO3 := Lib.hid ho2
        have B6 := Lib.hid (show Lb W w6 l from ⟨(hb6.block _ (Nat.lt_succ_self _)).trans B.out.box, B.out.below.trans (hb6.mono (Nat.le_succ _))⟩)
        clear hrun ho2 hb6
        go_wp2_with (first | (with_reducible refine wpList_load_by rfl rfl E.out.load rfl ?_) | (with_reducible refine wpList_build rfl rfl (build_ent _ e) rfl ?_) | (at_builtin; (refine wpList_append_run rfl (.tmp 26) (.tmp 28) 25 rfl _ _ _ rfl rfl _ HR.out ?_)) | fail)
        go_round
        case rel => exact ⟨k + 1, q2, c2, by omega, rfl, by simp; omega, HO3, B6⟩
        case measure => simp; omega
      · have HE := hA2 hlt
        rw [HE] at CB
        obtain rfl : k = X.length := by omega
        clear hA1 hA2 HE hik
        generalize (atV l L (i + (X.length : Int))).1 = e at *
        go_upto_region 6 with (first | (with_reducible refine wpList_load_by rfl rfl B.out.box.load rfl ?_) | (go_at_call 14; (with_reducible refine CB.out.mono ?_); rintro r wb ⟨rfl, kk⟩; have B := Lib.hid (B.out.next kk); have HO := Lib.hid (owns_below HO.out kk); clear kk) | (with_reducible refine wpList_store_by rfl rfl (ent_new _ _) rfl rfl ?_) | fail)
        have B := Lib.hid (B.out.next (below1 wb (enO e)))
        have HO := Lib.hid (owns_below HO.out (below1 wb (enO e)))
        generalize wb.heap.size = z at *
        generalize wb.alloc (enO e) = w5 at *
        clear CB
        rw [List.take_length] at HO
        go_wp2
        go_ret
        exact ⟨q, c, rfl, reads_of_owns HO.out, B.out.below⟩
    · have q5 : decide ((k : Int) < most) = false := decide_eq_false hkm
      obtain rfl : k = X.length := by have := HMM.out; omega
      rw [List.take_length] at HO
      go_wp2
      go_ret
      exact ⟨q, c, rfl, reads_of_owns HO.out, B.out.below⟩
end Go.Proofs.Ythlghmechldegaa
