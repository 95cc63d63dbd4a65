/- The law's own first fixed fact. -/
import Derived.Test.YthlghmechldegaaO
namespace Go.Proofs.Ythlghmechldegaa
open Go.RowKit Go.Deep Go.Joins
set_option maxRecDepth 100000
def oneF : Nat → Bool := fun i => i == 0
def oneE : En := ⟨2, 0, zeroIn, noF⟩
def oneL : Lg := ⟨0, 0, oneF, .slice none 0 0⟩
def threeF : Nat → Bool := fun i => decide (i < 3)
def fiveH : Nat → Int := fun i => if i = 0 then 5 else if i = 1 then 3 else if i = 2 then 4 else 0
theorem cn_oneF : cn oneF 7 = 1 := by decide
theorem noF_noF : setEq noF noF = true := by decide
theorem add_one : addE oneL [] [oneE] = 0 := by
  have h : chkB oneL ([] ++ [oneE]) = true := by
    simp [chkB, listB, entB, kindB, oneE, oneL, inEq, cn_oneF, noF_noF]
  unfold addE
  rw [if_neg (by decide), chkF_yes _ _ h]
theorem lg_new (w : World) (l : Lg) (h : LOk l) : (Instr.storeAt 27 (.pointer (some ⟨w.heap.size, 0, none⟩)) (lgV l)).run Try.prog (w.alloc (.cells zlgC 27)) = .ok () (w.alloc (lgO l)) :=
  run_storeAt_new w 27 _ (lgC l) (by rw [size27, lgC_size]) (by rw [lgC_size]; rfl) (lg_one l h)
theorem ag_five : ag threeF fiveH 7 = 4 := by decide
set_option maxHeartbeats 4000000 in
theorem awake_any (W : World) : Calls Try.prog 8 #[] W fun r W' => r = .returned (.bool true) ∧ Below W.heap.size W W' := by
  have CA := Lib.hid (show ∀ w, w.heap[W.heap.size]? = some (.cells #[.int .u64 2, .int .i64 0, .int .u64 0, .int .i64 0, .int .i64 0, .string ⟨#[]⟩, .bool false, .bool false, .bool false, .bool false, .bool false, .bool false, .bool false] 36 (0, 0)) → Calls Try.prog 25 #[.agg #[.int .u64 0, .int .u64 0, .bool true, .bool false, .bool false, .bool false, .bool false, .bool false, .bool false, .slice none 0 0], .slice (some ⟨W.heap.size, 0, none⟩) 1 1] w (fun r W' => ∃ v, r = .returned (.tuple #[lgV ⟨0, 0, oneF, v⟩, .int .i64 0]) ∧ EAt W' v [oneE] ∧ Below w.heap.size w W') from fun w hg =>
    (add_any oneL [] [oneE] (some ⟨W.heap.size, 0, none⟩) 1 w ⟨rfl, .inl ⟨rfl, rfl⟩⟩ ⟨by rw [eC_length], .inr ⟨⟨W.heap.size, 0, none⟩, 1, rfl, Nat.le_refl _, by unfold maxLen; decide, fun j u hu => by
      rw [add_lit, cell_of_row w _ _ _ 36 (0, 0) hg]
      show (enC oneE)[_]? = _
      rw [enC_at]
      simpa [eC] using hu⟩⟩ (fun e h => by cases h) (fun e h => by rw [List.mem_singleton] at h; subst h; unfold maxLen; decide) (by decide)).mono fun r W' ⟨r', h1, h2, h3⟩ => by
        rw [add_one] at h1 h2
        rcases h2 with ⟨_, v, rfl, ho⟩ | ⟨hne, _⟩
        · exact ⟨v, h1, ho.at, h3⟩
        · exact absurd rfl hne)
  have CG := Lib.hid (show ∀ w, Calls Try.prog 37 #[.agg #[.bool true, .bool true, .bool true, .bool false, .bool false, .bool false, .bool false], .agg #[.int .u64 5, .int .u64 3, .int .u64 4, .int .u64 0, .int .u64 0, .int .u64 0, .int .u64 0]] w fun r W' => r = .returned (.int .u64 4) ∧ Below w.heap.size w W' from fun w => by
    have h := agreed_any threeF fiveH w
    rw [ag_five] at h
    exact h)
  go_enter Try.func8, Try.ntmps8
  have CL := Lib.hid (show ∀ w v, EAt w v [oneE] → Calls Try.prog 11 #[lgV ⟨0, 0, oneF, v⟩] w fun r W' => r = .returned (.tuple #[.int .u64 1, .int .u64 2]) ∧ Below w.heap.size w W' from fun w v hv => last_any ⟨0, 0, oneF, v⟩ [oneE] w hv (show (0 : Int) ≤ 0 by decide) (show (0 : Int) ≤ 1152921504606846976 by decide) (by decide))
  go_upto_region 2 with (first | (go_at_call 25; (with_reducible refine (CA.out _ (heap_alloc_new _ _)).mono ?_); rintro r wb ⟨v, rfl, he, kk⟩; obtain ⟨q5, c5, hv⟩ := Reads.is he; replace hv : v = .slice q5 1 c5 := hv; subst hv; have HE := Lib.hid he; have HB := Lib.hid (below_then (below1 W _) (Nat.le_refl _) kk); have HF := Lib.hid (fun w => lg_new w ⟨0, 0, oneF, .slice q5 1 c5⟩ ⟨_, _, _, rfl⟩); clear he kk) | (with_reducible refine wpList_store_by rfl rfl (HF.out _) rfl rfl ?_) | fail)
  have X := Lib.hid (LBox.new wb ⟨0, 0, oneF, .slice q5 1 c5⟩)
  have HB2 := Lib.hid (below_then HB.out (by have := HB.out.size; omega) (below1 wb (lgO ⟨0, 0, oneF, .slice q5 1 c5⟩)))
  have CL := Lib.hid (CL.out _ _ (HE.out.below (below1 wb (lgO ⟨0, 0, oneF, .slice q5 1 c5⟩))))
  clear HE CA HF
  generalize wb.heap.size = g at *
  generalize wb.alloc (lgO ⟨0, 0, oneF, .slice q5 1 c5⟩) = w4 at *
  go_wp2_with (first | (with_reducible refine wpList_load_by rfl rfl X.out.load rfl ?_) | (go_at_call 11; (with_reducible refine CL.out.mono ?_); rintro r wc ⟨rfl, kk⟩; have HB := Lib.hid (below_then HB2.out (by have := HB2.out.size; omega) kk); clear kk) | (go_at_call 37; (with_reducible refine (CG.out _).mono ?_); rintro r wd ⟨rfl, kk⟩; have HB := Lib.hid (below_then HB.out (by have := HB.out.size; omega) kk); clear kk) | fail)
  go_ret
  exact ⟨rfl, HB.out⟩
end Go.Proofs.Ythlghmechldegaa
