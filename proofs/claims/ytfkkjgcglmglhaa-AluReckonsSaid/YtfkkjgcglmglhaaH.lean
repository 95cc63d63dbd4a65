/- The program and the reference agree; AluTells as a call. -/
import Derived.Test.YtfkkjgcglmglhaaG
namespace Go.Proofs.Ytfkkjgcglmglhaa
open Go.RowKit Go.Deep Go.Joins
theorem do_agree (op a b : Int) (ha : U64 a) (hb : U64 b) : ∃ (x : Int) (p : Bool), (∀ W, Calls Try.prog 13 #[.int .i64 op, (.int .u64 a), (.int .u64 b)] W fun e W' => e = .returned (.tuple #[.int .u64 x, .bool p]) ∧ W = W') ∧ (∀ W, Calls Try.prog 14 #[.int .i64 op, (.int .u64 a), (.int .u64 b)] W fun e W' => e = .returned (.tuple #[.int .u64 x, .bool p]) ∧ W = W') := by
  by_cases h : op ∈ ([31, 22, 32, 33, 28, 37, 29, 38, 30, 34, 23, 35, 24, 36, 25, 39, 26, 40, 27, 60, 61, 62, 63, 64, 65, 66, 67, 45, 41, 46, 68, 47, 42, 48, 43, 49, 44, 69, 70, 71, 72] : List Int)
  · simp only [List.mem_cons, List.not_mem_nil, or_false] at h
    rcases h with rfl | rfl | rfl | rfl | rfl | rfl | rfl | rfl | rfl | rfl | rfl | rfl | rfl | rfl | rfl | rfl | rfl | rfl | rfl | rfl | rfl | rfl | rfl | rfl | rfl | rfl | rfl | rfl | rfl | rfl | rfl | rfl | rfl | rfl | rfl | rfl | rfl | rfl | rfl | rfl | rfl
    · exact ⟨_, _, fun W => do_31 a b ha hb W, fun W => rdo_31 a b ha hb W⟩
    · exact ⟨_, _, fun W => do_22 a b ha hb W, fun W => rdo_22 a b ha hb W⟩
    · exact ⟨_, _, fun W => do_32 a b ha hb W, fun W => rdo_32 a b ha hb W⟩
    · exact ⟨_, _, fun W => do_33 a b ha hb W, fun W => rdo_33 a b ha hb W⟩
    · exact ⟨_, _, fun W => do_28 a b ha hb W, fun W => rdo_28 a b ha hb W⟩
    · exact ⟨_, _, fun W => do_37 a b ha hb W, fun W => rdo_37 a b ha hb W⟩
    · exact ⟨_, _, fun W => do_29 a b ha hb W, fun W => rdo_29 a b ha hb W⟩
    · exact ⟨_, _, fun W => do_38 a b ha hb W, fun W => rdo_38 a b ha hb W⟩
    · exact ⟨_, _, fun W => do_30 a b ha hb W, fun W => rdo_30 a b ha hb W⟩
    · exact ⟨_, _, fun W => do_34 a b ha hb W, fun W => rdo_34 a b ha hb W⟩
    · exact ⟨_, _, fun W => do_23 a b ha hb W, fun W => rdo_23 a b ha hb W⟩
    · exact ⟨_, _, fun W => do_35 a b ha hb W, fun W => rdo_35 a b ha hb W⟩
    · exact ⟨_, _, fun W => do_24 a b ha hb W, fun W => rdo_24 a b ha hb W⟩
    · exact ⟨_, _, fun W => do_36 a b ha hb W, fun W => rdo_36 a b ha hb W⟩
    · exact ⟨_, _, fun W => do_25 a b ha hb W, fun W => rdo_25 a b ha hb W⟩
    · exact ⟨_, _, fun W => do_39 a b ha hb W, fun W => rdo_39 a b ha hb W⟩
    · exact ⟨_, _, fun W => do_26 a b ha hb W, fun W => rdo_26 a b ha hb W⟩
    · exact ⟨_, _, fun W => do_40 a b ha hb W, fun W => rdo_40 a b ha hb W⟩
    · exact ⟨_, _, fun W => do_27 a b ha hb W, fun W => rdo_27 a b ha hb W⟩
    · exact ⟨_, _, fun W => do_60 a b ha hb W, fun W => rdo_60 a b ha hb W⟩
    · exact ⟨_, _, fun W => do_61 a b ha hb W, fun W => rdo_61 a b ha hb W⟩
    · exact ⟨_, _, fun W => do_62 a b ha hb W, fun W => rdo_62 a b ha hb W⟩
    · exact ⟨_, _, fun W => do_63 a b ha hb W, fun W => rdo_63 a b ha hb W⟩
    · exact ⟨_, _, fun W => do_64 a b ha hb W, fun W => rdo_64 a b ha hb W⟩
    · exact ⟨_, _, fun W => do_65 a b ha hb W, fun W => rdo_65 a b ha hb W⟩
    · exact ⟨_, _, fun W => do_66 a b ha hb W, fun W => rdo_66 a b ha hb W⟩
    · exact ⟨_, _, fun W => do_67 a b ha hb W, fun W => rdo_67 a b ha hb W⟩
    · exact ⟨_, _, fun W => do_45 a b ha hb W, fun W => rdo_45 a b ha hb W⟩
    · exact ⟨_, _, fun W => do_41 a b ha hb W, fun W => rdo_41 a b ha hb W⟩
    · exact ⟨_, _, fun W => do_46 a b ha hb W, fun W => rdo_46 a b ha hb W⟩
    · exact ⟨_, _, fun W => do_68 a b ha hb W, fun W => rdo_68 a b ha hb W⟩
    · exact ⟨_, _, fun W => do_47 a b ha hb W, fun W => rdo_47 a b ha hb W⟩
    · exact ⟨_, _, fun W => do_42 a b ha hb W, fun W => rdo_42 a b ha hb W⟩
    · exact ⟨_, _, fun W => do_48 a b ha hb W, fun W => rdo_48 a b ha hb W⟩
    · exact ⟨_, _, fun W => do_43 a b ha hb W, fun W => rdo_43 a b ha hb W⟩
    · exact ⟨_, _, fun W => do_49 a b ha hb W, fun W => rdo_49 a b ha hb W⟩
    · exact ⟨_, _, fun W => do_44 a b ha hb W, fun W => rdo_44 a b ha hb W⟩
    · exact ⟨_, _, fun W => do_69 a b ha hb W, fun W => rdo_69 a b ha hb W⟩
    · exact ⟨_, _, fun W => do_70 a b ha hb W, fun W => rdo_70 a b ha hb W⟩
    · exact ⟨_, _, fun W => do_71 a b ha hb W, fun W => rdo_71 a b ha hb W⟩
    · exact ⟨_, _, fun W => do_72 a b ha hb W, fun W => rdo_72 a b ha hb W⟩
  · have h1 : ∀ k ∈ ([31, 22, 32, 33, 28, 37, 29, 38, 30, 34, 23, 35, 24, 36, 25, 39, 26, 40, 27, 60, 61, 62, 63, 64, 65, 66, 67, 45, 41, 46, 68, 47, 42, 48, 43, 49, 44, 69, 70, 71, 72] : List Int), op ≠ k := fun k hk e => h (e ▸ hk)
    exact ⟨_, _, fun W => do_none op a b h1 W, fun W => rdo_none op a b h1 W⟩
theorem amo_agree (op a b : Int) (ha : U64 a) (hb : U64 b) : ∃ (x : Int) (p : Bool), (∀ W, Calls Try.prog 17 #[.int .i64 op, (.int .u64 a), (.int .u64 b)] W fun e W' => e = .returned (.tuple #[.int .u64 x, .bool p]) ∧ W = W') ∧ (∀ W, Calls Try.prog 18 #[.int .i64 op, (.int .u64 a), (.int .u64 b)] W fun e W' => e = .returned (.tuple #[.int .u64 x, .bool p]) ∧ W = W') := by
  by_cases h : op ∈ ([86, 87, 88, 89, 90, 91, 92, 93, 94, 75, 76, 77, 78, 79, 80, 81, 82, 83] : List Int)
  · simp only [List.mem_cons, List.not_mem_nil, or_false] at h
    rcases h with rfl | rfl | rfl | rfl | rfl | rfl | rfl | rfl | rfl | rfl | rfl | rfl | rfl | rfl | rfl | rfl | rfl | rfl
    · exact ⟨_, _, fun W => amo_86 a b ha hb W, fun W => ramo_86 a b ha hb W⟩
    · exact ⟨_, _, fun W => amo_87 a b ha hb W, fun W => ramo_87 a b ha hb W⟩
    · exact ⟨_, _, fun W => amo_88 a b ha hb W, fun W => ramo_88 a b ha hb W⟩
    · exact ⟨_, _, fun W => amo_89 a b ha hb W, fun W => ramo_89 a b ha hb W⟩
    · exact ⟨_, _, fun W => amo_90 a b ha hb W, fun W => ramo_90 a b ha hb W⟩
    · exact ⟨_, _, fun W => amo_91 a b ha hb W, fun W => ramo_91 a b ha hb W⟩
    · exact ⟨_, _, fun W => amo_92 a b ha hb W, fun W => ramo_92 a b ha hb W⟩
    · exact ⟨_, _, fun W => amo_93 a b ha hb W, fun W => ramo_93 a b ha hb W⟩
    · exact ⟨_, _, fun W => amo_94 a b ha hb W, fun W => ramo_94 a b ha hb W⟩
    · exact ⟨_, _, fun W => amo_75 a b ha hb W, fun W => ramo_75 a b ha hb W⟩
    · exact ⟨_, _, fun W => amo_76 a b ha hb W, fun W => ramo_76 a b ha hb W⟩
    · exact ⟨_, _, fun W => amo_77 a b ha hb W, fun W => ramo_77 a b ha hb W⟩
    · exact ⟨_, _, fun W => amo_78 a b ha hb W, fun W => ramo_78 a b ha hb W⟩
    · exact ⟨_, _, fun W => amo_79 a b ha hb W, fun W => ramo_79 a b ha hb W⟩
    · exact ⟨_, _, fun W => amo_80 a b ha hb W, fun W => ramo_80 a b ha hb W⟩
    · exact ⟨_, _, fun W => amo_81 a b ha hb W, fun W => ramo_81 a b ha hb W⟩
    · exact ⟨_, _, fun W => amo_82 a b ha hb W, fun W => ramo_82 a b ha hb W⟩
    · exact ⟨_, _, fun W => amo_83 a b ha hb W, fun W => ramo_83 a b ha hb W⟩
  · have h1 : ∀ k ∈ ([86, 87, 88, 89, 90, 91, 92, 93, 94, 75, 76, 77, 78, 79, 80, 81, 82, 83] : List Int), op ≠ k := fun k hk e => h (e ▸ hk)
    exact ⟨_, _, fun W => amo_none op a b h1 W, fun W => ramo_none op a b h1 W⟩
theorem branch_agree (op a b : Int) : ∃ (x : Bool) (p : Bool), (∀ W, Calls Try.prog 15 #[.int .i64 op, (.int .u64 a), (.int .u64 b)] W fun e W' => e = .returned (.tuple #[.bool x, .bool p]) ∧ W = W') ∧ (∀ W, Calls Try.prog 16 #[.int .i64 op, (.int .u64 a), (.int .u64 b)] W fun e W' => e = .returned (.tuple #[.bool x, .bool p]) ∧ W = W') := by
  by_cases h : op ∈ ([5, 6, 7, 8, 9, 10] : List Int)
  · simp only [List.mem_cons, List.not_mem_nil, or_false] at h
    rcases h with rfl | rfl | rfl | rfl | rfl | rfl
    · exact ⟨_, _, fun W => branch_5 a b W, fun W => rbranch_5 a b W⟩
    · exact ⟨_, _, fun W => branch_6 a b W, fun W => rbranch_6 a b W⟩
    · exact ⟨_, _, fun W => branch_7 a b W, fun W => rbranch_7 a b W⟩
    · exact ⟨_, _, fun W => branch_8 a b W, fun W => rbranch_8 a b W⟩
    · exact ⟨_, _, fun W => branch_9 a b W, fun W => rbranch_9 a b W⟩
    · exact ⟨_, _, fun W => branch_10 a b W, fun W => rbranch_10 a b W⟩
  · have h1 : ∀ k ∈ ([5, 6, 7, 8, 9, 10] : List Int), op ≠ k := fun k hk e => h (e ▸ hk)
    exact ⟨_, _, fun W => branch_none op a b h1 W, fun W => rbranch_none op a b h1 W⟩
theorem sub35 : uV (3 - 5) = 18446744073709551614 := by rw [uV_eq]; omega
theorem word31 : wordV 2147483648 = 18446744071562067968 := by rw [wordV_eq]; omega
theorem u3 : U64 3 := ⟨by omega, by omega⟩
theorem u5 : U64 5 := ⟨by omega, by omega⟩
theorem awake_do (W : World) : Calls Try.prog 13 #[.int .i64 32, .int .u64 3, .int .u64 5] W fun e W' => e = .returned (.tuple #[.int .u64 18446744073709551614, .bool true]) ∧ W = W' := by
  have h := do_32 3 5 u3 u5 W
  rw [sub35] at h
  exact h
theorem awake_word (W : World) : Calls Try.prog 11 #[.int .u64 2147483648] W fun e W' => e = .returned (.int .u64 18446744071562067968) ∧ W = W' := by
  have h := word_any 2147483648 W
  rw [word31] at h
  exact h
set_option maxHeartbeats 1000000 in
theorem awake_any  (W : World) : Calls Try.prog 10 #[] W fun e W' => e = .returned (.bool true) ∧ W = W' := by
  go_enter Try.func10, Try.ntmps10
  go_wp2_with (first | (go_at_call 13; (with_reducible refine (awake_do _).mono ?_); rintro e w' ⟨rfl, rfl⟩) | (go_at_call 11; (with_reducible refine (awake_word _).mono ?_); rintro e w' ⟨rfl, rfl⟩) | fail)
  go_ret
  exact ⟨rfl, rfl⟩
set_option maxHeartbeats 1000000 in
theorem tells_any (op a b : Int) (ha : U64 a) (hb : U64 b) (W : World) : Calls Try.prog 3 #[.int .i64 op, (.int .u64 a), (.int .u64 b)] W fun e W' => e = .returned (.bool true) ∧ W = W' := by
  obtain ⟨x, p, hx, hx'⟩ := do_agree op a b ha hb
  obtain ⟨y, q, hy, hy'⟩ := branch_agree op a b
  obtain ⟨z, r, hz, hz'⟩ := amo_agree op a b ha hb
  have HX := Lib.hid hx; have HX' := Lib.hid hx'; have HY := Lib.hid hy; have HY' := Lib.hid hy'; have HZ := Lib.hid hz; have HZ' := Lib.hid hz'
  clear hx hx' hy hy' hz hz'
  go_enter Try.func3, Try.ntmps3
  go_wp2_with (first | (go_at_call 10; (with_reducible refine (awake_any _).mono ?_); rintro e w' ⟨rfl, rfl⟩) | (go_at_call 11; (with_reducible refine (word_any _ _).mono ?_); rintro e w' ⟨rfl, rfl⟩) | (go_at_call 12; (with_reducible refine (rWord_any _ _).mono ?_); rintro e w' ⟨rfl, rfl⟩) | (go_at_call 13; (with_reducible refine (HX.out _).mono ?_); rintro e w' ⟨rfl, rfl⟩) | (go_at_call 14; (with_reducible refine (HX'.out _).mono ?_); rintro e w' ⟨rfl, rfl⟩) | (go_at_call 15; (with_reducible refine (HY.out _).mono ?_); rintro e w' ⟨rfl, rfl⟩) | (go_at_call 16; (with_reducible refine (HY'.out _).mono ?_); rintro e w' ⟨rfl, rfl⟩) | (go_at_call 17; (with_reducible refine (HZ.out _).mono ?_); rintro e w' ⟨rfl, rfl⟩) | (go_at_call 18; (with_reducible refine (HZ'.out _).mono ?_); rintro e w' ⟨rfl, rfl⟩) | fail)
  go_ret
  exact ⟨rfl, rfl⟩

end Go.Proofs.Ytfkkjgcglmglhaa
