/- A new board; is it right. -/
import Derived.Test.YtgflnfmnjlmenaaYDLZ
import Derived.Test.YtgflnfmnjlmenaaYDVV
import Derived.Test.YtgflnfmnjlmenaaYPA
import Derived.Test.YtgflnfmnjlmenaaYRW
namespace Go.Proofs.Ytgflnfmnjlmenaa
open Go.RowKit Go.Deep Go.Joins
def zer : ByteArray := ⟨(List.replicate 1024 (0 : UInt8)).toArray⟩
theorem zer_size : zer.size = 1024 := by
  show (List.replicate 1024 (0 : UInt8)).toArray.size = 1024
  rw [List.size_toArray, List.length_replicate]
theorem str_new (w : World) (D : List UInt8) (hD : D.length ≤ maxLen) : (convert 36 9 (.slice (some ⟨w.heap.size, 0, none⟩) D.length D.length)).run Try.prog (w.alloc (.cells (dC D).toArray 5)) = .ok (.string ⟨D.toArray⟩) (w.alloc (.cells (dC D).toArray 5)) := by
  have hown := owns_whole (w := w.alloc (.cells (dC D).toArray 5)) (B := 0) (Nat.zero_le _) (heap_alloc_new w (.cells (dC D).toArray 5)) (by rw [List.size_toArray, dC_length]) hD
  rw [List.toList_toArray] at hown
  exact string_of (OwnD.at (B := 0) hown)
def bdN : Bd := { bdZ with cmp := 18446744073709551615, sec := zer }
set_option maxRecDepth 10000 in
set_option maxHeartbeats 1000000 in
theorem dnew_any (W : World) : Calls Try.prog 35 #[] W fun e W' => e = .returned (bdV bdN) ∧ Below W.heap.size W W' := by
  have X := Lib.hid (show Box (W.alloc zeroO) W.heap.size bdZ from Box.new W bdZ)
  have hb0 := below1 W zeroO
  have hmd : (Instr.makeSlice 36 (.int .i64 1024) (.int .i64 1024)).run Try.prog (W.alloc zeroO) = .ok (.slice (some ⟨(W.alloc zeroO).heap.size, 0, none⟩) 1024 1024) ((W.alloc zeroO).alloc (.cells (dC (List.replicate 1024 0)).toArray 5)) := make_d 1024 (by omega) (W.alloc zeroO)
  have hstr := str_new (W.alloc zeroO) (List.replicate 1024 0) (by rw [List.length_replicate]; unfold maxLen; omega)
  rw [List.length_replicate] at hstr
  have Y := Lib.hid (X.out.next (below1 _ (.cells (dC (List.replicate 1024 0)).toArray 5)))
  have HB := Lib.hid (below_then hb0 (below1 _ (.cells (dC (List.replicate 1024 0)).toArray 5)))
  obtain ⟨z, hz⟩ : ∃ z, z = (⟨(List.replicate 1024 (0 : UInt8)).toArray⟩ : ByteArray) := ⟨_, rfl⟩
  rw [← hz] at hstr
  obtain ⟨r, hr⟩ : ∃ r, r = (dC (List.replicate 1024 0)).toArray := ⟨_, rfl⟩
  rw [← hr] at hmd hstr Y HB
  have HZ : RowKit.Hid (({ bdZ with cmp := 18446744073709551615, sec := z } : Bd) = bdN) := Lib.hid (by subst hz; rfl)
  clear hz hr hb0
  go_enter Try.func35, Try.ntmps35
  go_upto_region 1 with (fail)
  clear X
  generalize W.alloc zeroO = u at hmd hstr Y HB ⊢
  go_wp2_with (first | (refine w_box (b := { bdZ with cmp := 18446744073709551615, sec := z }) Y.out rfl rfl rfl (by rfl) ?_; intro wz hwz; have K := Lib.hid (Box.put Y.out hwz); have KB2 := Lib.hid (below_put HB.out (Nat.le_refl _) hwz); clear hwz) | fail)
  exact bodyPost_ret (v := bdV ({ bdZ with cmp := 18446744073709551615, sec := z })) (results_cell_row Try.results35 _ _ W.heap.size 35 (bdC ({ bdZ with cmp := 18446744073709551615, sec := z })) (0, 0) _ rfl K.out Try.underlying35 rfl (by rw [size35, bdC_size])) rfl ⟨by rw [HZ.out], KB2.out⟩
def frB (F : List ByteArray) : Bool := F.all fun f => decide (f.size ≤ 64)
def rightB (b : Bd) (F : List ByteArray) : Bool := hasB b && decide (b.inn.size ≤ 1024) && decide (F.length ≤ 64) && frB F
theorem frB_no {F : List ByteArray} (k : Nat) (hk : k < F.length) (h : 64 < F[k].size) : frB F = false := by
  unfold frB
  rw [List.all_eq_false]
  exact ⟨F[k], List.getElem_mem _, by simp; omega⟩
theorem frB_yes {F : List ByteArray} (h : ∀ j (hj : j < F.length), F[j].size ≤ 64) : frB F = true := by
  unfold frB
  rw [List.all_eq_true]
  intro f hf
  obtain ⟨j, hj, rfl⟩ := List.getElem_of_mem hf
  exact decide_eq_true (h j hj)
set_option maxRecDepth 10000 in
set_option maxHeartbeats 1000000 in
theorem right_a (b : Bd) (F : List ByteArray) (W : World) (h0 : hasB b = false) : Calls Try.prog 30 #[bdV b] W fun e W' => e = .returned (.bool (rightB b F)) ∧ Below W.heap.size W W' := by
  have HE : RowKit.Hid (rightB b F = false) := Lib.hid (by unfold rightB; simp [*])
  have c26 := Lib.hid (fun W => h0 ▸ has_any b W)
  have X := Lib.hid (Box.new W b)
  have HB := Lib.hid (below1 W (bdO b))
  go_enter Try.func30, Try.ntmps30
  go_upto_region 1 with (fail)
  generalize W.alloc (bdO b) = wx at X HB ⊢
  go_wp2_with (first | (with_reducible refine wpList_load_by rfl rfl (Box.load X.out) rfl ?_) | (go_at_call 42; (with_reducible refine (c26.out _).mono ?_); rintro e w2 ⟨rfl, k2⟩; have X2 := Lib.hid (X.out.next k2); have HB2 := Lib.hid (below_then HB.out k2); clear k2; have mi := X2.out.cell_inn; have mf := X2.out.cell_fr) | fail)
  go_ret
  exact ⟨ret_bool HE.out.symm, HB2.out⟩
set_option maxRecDepth 10000 in
set_option maxHeartbeats 1000000 in
theorem right_b (b : Bd) (F : List ByteArray) (W : World) (h0 : hasB b = true) (h1 : ¬ b.inn.size ≤ 1024) : Calls Try.prog 30 #[bdV b] W fun e W' => e = .returned (.bool (rightB b F)) ∧ Below W.heap.size W W' := by
  have HE : RowKit.Hid (rightB b F = false) := Lib.hid (by unfold rightB; simp [*])
  have c26 := Lib.hid (fun W => h0 ▸ has_any b W)
  have hi : decide (1024 < b.inn.size) = true := decide_eq_true (by omega)
  have X := Lib.hid (Box.new W b)
  have HB := Lib.hid (below1 W (bdO b))
  go_enter Try.func30, Try.ntmps30
  go_upto_region 1 with (fail)
  generalize W.alloc (bdO b) = wx at X HB ⊢
  go_wp2_with (first | (with_reducible refine wpList_load_by rfl rfl (Box.load X.out) rfl ?_) | (go_at_call 42; (with_reducible refine (c26.out _).mono ?_); rintro e w2 ⟨rfl, k2⟩; have X2 := Lib.hid (X.out.next k2); have HB2 := Lib.hid (below_then HB.out k2); clear k2; have mi := X2.out.cell_inn; have mf := X2.out.cell_fr) | fail)
  go_ret
  exact ⟨ret_bool HE.out.symm, HB2.out⟩
set_option maxRecDepth 10000 in
set_option maxHeartbeats 1000000 in
theorem right_c (b : Bd) (F : List ByteArray) (W : World) (hl : b.fn = F.length) (h0 : hasB b = true) (h1 : b.inn.size ≤ 1024) (h2 : ¬ F.length ≤ 64) : Calls Try.prog 30 #[bdV b] W fun e W' => e = .returned (.bool (rightB b F)) ∧ Below W.heap.size W W' := by
  have HE : RowKit.Hid (rightB b F = false) := Lib.hid (by unfold rightB; simp [*])
  have c26 := Lib.hid (fun W => h0 ▸ has_any b W)
  have hi : decide (1024 < b.inn.size) = false := decide_eq_false (by omega)
  have hf : decide (64 < b.fn) = true := decide_eq_true (by omega)
  have X := Lib.hid (Box.new W b)
  have HB := Lib.hid (below1 W (bdO b))
  go_enter Try.func30, Try.ntmps30
  go_upto_region 1 with (fail)
  generalize W.alloc (bdO b) = wx at X HB ⊢
  go_wp2_with (first | (with_reducible refine wpList_load_by rfl rfl (Box.load X.out) rfl ?_) | (go_at_call 42; (with_reducible refine (c26.out _).mono ?_); rintro e w2 ⟨rfl, k2⟩; have X2 := Lib.hid (X.out.next k2); have HB2 := Lib.hid (below_then HB.out k2); clear k2; have mi := X2.out.cell_inn; have mf := X2.out.cell_fr) | fail)
  go_ret
  exact ⟨ret_bool HE.out.symm, HB2.out⟩
set_option maxRecDepth 10000 in
set_option maxHeartbeats 1000000 in
theorem right_z (b : Bd) (F : List ByteArray) (W : World) (hl : b.fn = F.length) (h0 : hasB b = true) (h1 : b.inn.size ≤ 1024) (h3 : F.length = 0) : Calls Try.prog 30 #[bdV b] W fun e W' => e = .returned (.bool (rightB b F)) ∧ Below W.heap.size W W' := by
  have HE : RowKit.Hid (∀ x, frB F = x → rightB b F = x) := Lib.hid (by rintro x rfl; unfold rightB; simp [*])
  have c26 := Lib.hid (fun W => h0 ▸ has_any b W)
  have hi : decide (1024 < b.inn.size) = false := decide_eq_false (by omega)
  have hff : decide (64 < F.length) = false := decide_eq_false (by omega)
  have X := Lib.hid (Box.new W b)
  have HB := Lib.hid (below1 W (bdO b))
  go_enter Try.func30, Try.ntmps30
  go_upto_region 1 with (fail)
  generalize W.alloc (bdO b) = wx at X HB ⊢
  go_upto_region 3 with (first | (with_reducible refine wpList_load_by rfl rfl (Box.load X.out) rfl ?_) | (go_at_call 42; (with_reducible refine (c26.out _).mono ?_); rintro e w2 ⟨rfl, k2⟩; have X2 := Lib.hid (X.out.next k2); have HB2 := Lib.hid (below_then HB.out k2); clear k2; have mi := X2.out.cell_inn; have mf := X2.out.cell_fr; rw [hl] at mf) | fail)
  have hz : (F.length : Int) = 0 := by omega
  go_wp2_with fail
  go_loop [23] (fun i => i = .int .i64 0) (fun _ => 0)
  case atStart => rfl
  case round =>
    subst hrel
    have hlt : decide ((0 : Int) < F.length) = false := decide_eq_false (by omega)
    have hlt2 : decide (0 < F.length) = false := decide_eq_false (by omega)
    have HF := Lib.hid (HE.out true (frB_yes (fun j hj => absurd hj (by omega))))
    clear hz
    go_wp2_with fail
    go_ret
    exact ⟨ret_bool HF.out.symm, HB2.out⟩
set_option maxRecDepth 10000 in
set_option maxHeartbeats 1000000 in
theorem right_d (b : Bd) (F : List ByteArray) (W : World) (hl : b.fn = F.length) (h0 : hasB b = true) (h1 : b.inn.size ≤ 1024) (h2 : F.length ≤ 64) (hf : FAt W (.slice b.fp b.fn b.fc) F) (h3 : 0 < F.length) : Calls Try.prog 30 #[bdV b] W fun e W' => e = .returned (.bool (rightB b F)) ∧ Below W.heap.size W W' := by
  have HE : RowKit.Hid (∀ x, frB F = x → rightB b F = x) := Lib.hid (by rintro x rfl; unfold rightB; simp [*])
  have c26 := Lib.hid (fun W => h0 ▸ has_any b W)
  have hi : decide (1024 < b.inn.size) = false := decide_eq_false (by omega)
  have hff : decide (64 < F.length) = false := decide_eq_false (by omega)
  obtain ⟨g, off, cap, e, _, _, hg, hc⟩ := hf.cell h3
  simp only [Value.slice.injEq] at e
  obtain ⟨e1, _, e3⟩ := e
  clear hf
  have X := Lib.hid (Box.new W b)
  have HB := Lib.hid (below1 W (bdO b))
  go_enter Try.func30, Try.ntmps30
  go_upto_region 1 with (fail)
  generalize W.alloc (bdO b) = wx at X HB ⊢
  go_upto_region 3 with (first | (with_reducible refine wpList_load_by rfl rfl (Box.load X.out) rfl ?_) | (go_at_call 42; (with_reducible refine (c26.out _).mono ?_); rintro e w2 ⟨rfl, k2⟩; have X2 := Lib.hid (X.out.next k2); have HB2 := Lib.hid (below_then HB.out k2); clear k2; have mi := X2.out.cell_inn; have mf := X2.out.cell_fr; rw [hl, e1] at mf) | fail)
  have HC := Lib.hid (fun j (hj : j < F.length) => ((HB2.out.cell (p := ⟨g, off + j, none⟩) hg).trans (hc j hj)))
  have HL := Lib.hid (And.intro h2 h3)
  clear hc h2 h3 hff hi hg
  go_wp2_with fail
  go_loop [23] (fun i => ∃ j : Nat, j ≤ F.length ∧ i = .int .i64 j ∧ Hid (∀ k (hk : k < F.length), k < j → F[k].size ≤ 64)) (fun i => F.length - (intOf i).toNat)
  case atStart => exact ⟨0, Nat.zero_le _, rfl, Lib.hid (fun k _ hk => absurd hk (Nat.not_lt_zero _))⟩
  case round =>
    obtain ⟨j, hj, rfl, hall⟩ := hrel
    have hb64 : F.length ≤ 64 := HL.out.1
    by_cases hlt : j < F.length
    · have c1 := HC.out j hlt
      have HN := Lib.hid (fun h => frB_no (F := F) j hlt h)
      have HS := Lib.hid (show F[j].size ≤ 64 → ∀ k (hk : k < F.length), k < j + 1 → F[k].size ≤ 64 from fun h k hk hkj => by
        by_cases e : k < j
        · exact hall.out k hk e
        · obtain rfl : k = j := by omega
          exact h)
      generalize F[j] = X1 at *
      by_cases hx : 64 < X1.size
      · go_wp2_with fail
        go_ret
        exact ⟨ret_bool (HE.out _ (HN.out hx)).symm, HB2.out⟩
      · go_wp2_with fail
        go_round
        case rel => exact ⟨j + 1, by omega, by go_num, Lib.hid (HS.out (by omega))⟩
        case measure => simp [intOf]; omega
    · go_wp2_with fail
      go_ret
      exact ⟨ret_bool (HE.out _ (frB_yes (fun k hk => hall.out k hk (by omega)))).symm, HB2.out⟩
theorem right_any (b : Bd) (F : List ByteArray) (W : World) (hf : FAt W (.slice b.fp b.fn b.fc) F) : Calls Try.prog 30 #[bdV b] W fun e W' => e = .returned (.bool (rightB b F)) ∧ Below W.heap.size W W' := by
  have hl := hf.len
  rcases Bool.eq_false_or_eq_true (hasB b) with h0 | h0
  · by_cases h1 : b.inn.size ≤ 1024
    · by_cases h2 : F.length ≤ 64
      · by_cases h3 : F.length = 0
        · exact right_z b F W hl h0 h1 h3
        · exact right_d b F W hl h0 h1 h2 hf (by omega)
      · exact right_c b F W hl h0 h1 h2
    · exact right_b b F W h0 h1
  · exact right_a b F W h0
end Go.Proofs.Ytgflnfmnjlmenaa
