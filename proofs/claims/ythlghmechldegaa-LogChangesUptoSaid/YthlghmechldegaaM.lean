/- Concat of two lists. -/
import Derived.Test.YthlghmechldegaaL
namespace Go.Proofs.Ythlghmechldegaa
open Go.RowKit Go.Deep Go.Joins
set_option maxRecDepth 100000
/-- The lists so far. -/
def listK (A B : List En) : Nat → List En
  | 0 => []
  | 1 => A
  | _ => A ++ B
/-- Two lists in a row of two slices. -/
theorem pair_load (w : World) (g k : Nat) (a b v : Value) (hg : w.heap[g]? = some (.cells #[a, b] 25 (0, 0))) (hv : (#[a, b] : Array Value)[k]? = some v) : (Instr.loadAt 25 (.pointer (some ⟨g, k, none⟩))).run Try.prog w = .ok v w :=
  run_load_cell w g k 25 25 #[a, b] _ _ hg Try.underlying25 rfl hv
set_option maxHeartbeats 4000000 in
theorem concat_any (g : Nat) (p q : Option Addr) (c d : Nat) (A B : List En) (W : World) (hg : W.heap[g]? = some (.cells #[.slice p A.length c, .slice q B.length d] 25 (0, 0))) (hA : EAt W (.slice p A.length c) A) (hB : EAt W (.slice q B.length d) B) (hn : (A.length + B.length) * 64 ≤ 140737488355328) :
    Calls Try.prog 43 #[.slice (some ⟨g, 0, none⟩) 2 2] W fun r W' => ∃ q c, r = .returned (.slice q (A ++ B).length c) ∧ OwnE W' W.heap.size (.slice q (A ++ B).length c) (A ++ B) ∧ Below W.heap.size W W' := by
  have hlt : g < W.heap.size := (Array.getElem?_eq_some_iff.1 hg).1
  have HG := Lib.hid (show ∀ w, Below W.heap.size W w → w.heap[g]? = some (.cells #[.slice p A.length c, .slice q B.length d] 25 (0, 0)) from fun w hw => (hw.block g hlt).trans hg)
  have HA := Lib.hid hA
  have HB := Lib.hid hB
  have hn2 : A.length + B.length ≤ 9223372036854775807 := by omega
  have HN := Lib.hid hn
  obtain ⟨N, hN⟩ : ∃ N, A.length + B.length = N := ⟨_, rfl⟩
  have HNN := Lib.hid hN
  have CG := Lib.hid (fun W' => grow_any N (by rw [← hN]; exact hn) W')
  have hix0 : ∀ w : World, (Instr.indexAt 68 (.slice (some ⟨g, 0, none⟩) 2 2) (.int .i64 (0 : Nat))).run Try.prog w = .ok (.pointer (some ⟨g, 0, none⟩)) w := fun w => by kernel_rfl
  have hix1 : ∀ w : World, (Instr.indexAt 68 (.slice (some ⟨g, 0, none⟩) 2 2) (.int .i64 (1 : Nat))).run Try.prog w = .ok (.pointer (some ⟨g, 1, none⟩)) w := fun w => by kernel_rfl
  clear hg hA hB hn
  go_enter Try.func43, Try.ntmps43
  go_wp2
  go_loopw [3, 11] (fun n i wr => ∃ (k : Nat), k ≤ 2 ∧ n = .int .i64 (if k = 0 then 0 else if k = 1 then A.length else N : Nat) ∧ i = .int .i64 k ∧ RowKit.Hid (W = wr)) (fun _ i _ => 2 - (intOf i).toNat)
  case atStart => exact ⟨0, by omega, rfl, rfl, Lib.hid rfl⟩
  case round =>
    obtain ⟨k, hk, rfl, rfl, HW⟩ := hrel
    cases HW.out
    clear HW
    have L0 := Lib.hid (pair_load W g 0 _ _ _ (HG.out W (Below.refl _ _)) rfl)
    have L1 := Lib.hid (pair_load W g 1 _ _ _ (HG.out W (Below.refl _ _)) rfl)
    match k, hk with
    | 0, _ =>
      go_wp2_with (first | (with_reducible refine wpList_load_by rfl rfl L0.out rfl ?_) | fail)
      go_round
      case rel => exact ⟨1, by omega, by simp, rfl, Lib.hid (by trivial)⟩
      case measure => simp [intOf]
    | 1, _ =>
      go_wp2_with (first | (with_reducible refine wpList_load_by rfl rfl L1.out rfl ?_) | fail)
      go_round
      case rel => exact ⟨2, by omega, by simp; omega, rfl, Lib.hid (by trivial)⟩
      case measure => simp [intOf]
    | 2, _ =>
      clear L0 L1
      rw [show (if (2 : Nat) = 0 then 0 else if (2 : Nat) = 1 then A.length else N : Nat) = N from by simp]
      go_wp2_with (first | (go_at_call 49; (with_reducible refine (CG.out _).mono ?_); rintro r wb ⟨q0, c0, rfl, ho, kk⟩; have HO := Lib.hid ho; have HX := Lib.hid kk; clear ho kk) | fail)
      go_loopw [6, 27] (fun v i wr => ∃ (k : Nat) (q2 : Option Addr) (c2 : Nat), k ≤ 2 ∧ v = .slice q2 (listK A B k).length c2 ∧ i = .int .i64 k ∧ RowKit.Hid (OwnE wr W.heap.size (.slice q2 (listK A B k).length c2) (listK A B k)) ∧ RowKit.Hid (Below W.heap.size W wr)) (fun _ i _ => 2 - (intOf i).toNat)
      case atStart => exact ⟨0, q0, c0, by omega, rfl, rfl, HO, HX⟩
      case round =>
        clear HO HX
        obtain ⟨k, q2, c2, hk, rfl, rfl, HO, HX⟩ := hrel
        match k, hk, HO with
        | 0, _, HO =>
          have L := Lib.hid (pair_load wr g 0 _ _ _ (HG.out wr HX.out) rfl)
          obtain ⟨i, hi, hz, hs, hby⟩ := info36
          obtain ⟨q2, c2, w2, hrun, ho2, ht⟩ := app_row (ty := 25) Try.underlying25 hi hz hs hby rfl (by omega) HO.out (HA.out.below HX.out) (eC_one _) (by show 0 + A.length ≤ _; have := HN.out; unfold maxLen; omega) (by show (0 + A.length) * 64 ≤ _; have := HN.out; omega) HX.out.size
          have HR := Lib.hid hrun
          have HX2 := Lib.hid (Touch.below HX.out ht (fun g hg => by have := (owns_lt HO.out hg.symm).1; omega) HX.out.size)
          have HO2 := Lib.hid (show OwnE w2 W.heap.size (.slice q2 (listK A B 1).length c2) (listK A B 1) from by simpa [OwnE, listK, eC] using ho2)
          clear hrun hi hz hs hby ho2 ht
          go_wp2_with (first | (with_reducible refine wpList_load_by rfl rfl L.out rfl ?_) | (at_builtin; (refine wpList_append_run rfl (.tmp 31) (.tmp 32) 25 rfl _ _ _ rfl rfl _ HR.out ?_)) | fail)
          go_round
          case rel => exact ⟨1, q2, c2, by omega, by simp [listK], rfl, HO2, HX2⟩
          case measure => simp [intOf]
        | 1, _, HO =>
          have L := Lib.hid (pair_load wr g 1 _ _ _ (HG.out wr HX.out) rfl)
          obtain ⟨i, hi, hz, hs, hby⟩ := info36
          obtain ⟨q2, c2, w2, hrun, ho2, ht⟩ := app_row (ty := 25) Try.underlying25 hi hz hs hby rfl (by omega) HO.out (HB.out.below HX.out) (eC_one _) (by show A.length + B.length ≤ _; have := HN.out; unfold maxLen; omega) (by show (A.length + B.length) * 64 ≤ _; have := HN.out; omega) HX.out.size
          have HR := Lib.hid hrun
          have HX2 := Lib.hid (Touch.below HX.out ht (fun g hg => by have := (owns_lt HO.out hg.symm).1; omega) HX.out.size)
          have HO2 := Lib.hid (show OwnE w2 W.heap.size (.slice q2 (listK A B 2).length c2) (listK A B 2) from by show World.ownsRow w2 W.heap.size 36 13 (.slice q2 (A ++ B).length c2) (A ++ B).length (eC (A ++ B)); rw [eC_append, List.length_append]; exact ho2)
          clear hrun hi hz hs hby ho2 ht
          go_wp2_with (first | (with_reducible refine wpList_load_by rfl rfl L.out rfl ?_) | (at_builtin; (refine wpList_append_run rfl (.tmp 31) (.tmp 32) 25 rfl _ _ _ rfl rfl _ HR.out ?_)) | fail)
          go_round
          case rel => exact ⟨2, q2, c2, by omega, by simp [listK], rfl, HO2, HX2⟩
          case measure => simp [intOf]
        | 2, _, HO =>
          go_wp2
          go_ret
          exact ⟨_, _, rfl, HO.out, HX.out⟩
end Go.Proofs.Ythlghmechldegaa
