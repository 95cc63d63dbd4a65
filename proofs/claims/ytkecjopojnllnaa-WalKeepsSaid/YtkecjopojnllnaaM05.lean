/- Names of segments, as the reference writes them. -/
import Derived.Test.YtkecjopojnllnaaM04
namespace Go.Proofs.Ytkecjopojnllnaa
open Go.RowKit Go.Deep Go.Joins

def smallB (c : Int) : Bool := decide (97 ≤ c) && decide (c ≤ 122)
def prefB (p : ByteArray) : Bool := decide (1 ≤ p.size) && decide (p.size ≤ 8) && p.data.toList.all (fun c => smallB c.toNat)
theorem small_not {c : Int} : smallB c = false ↔ c < 97 ∨ 122 < c := by
  unfold smallB
  simp only [Bool.and_eq_false_iff, decide_eq_false_iff_not]
  omega
theorem mayBe_any (s : ByteArray) (w : World) :
    Calls Try.prog 30 #[.string s] w fun e w' => e = .returned (.bool (prefB s)) ∧ w = w' := by
  by_cases h0 : s.size < 1
  · go_enter Try.func30, Try.ntmps30
    go_wp2
    go_ret
    exact ⟨ret_bool (by unfold prefB; rw [show decide (1 ≤ s.size) = false from decide_eq_false (by omega)]; simp), rfl⟩
  by_cases h1 : 8 < s.size
  · go_enter Try.func30, Try.ntmps30
    go_wp2
    go_ret
    exact ⟨ret_bool (by unfold prefB; rw [show decide (s.size ≤ 8) = false from decide_eq_false (by omega)]; simp), rfl⟩
  have e : prefB s = s.data.toList.all fun c => smallB c.toNat := by
    unfold prefB
    rw [show decide (1 ≤ s.size) = true from decide_eq_true (by omega), show decide (s.size ≤ 8) = true from decide_eq_true (by omega)]
    rfl
  have E := Lib.hid e
  clear e
  go_enter Try.func30, Try.ntmps30
  go_wp2
  go_loop [14] (fun i => ∃ k : Nat, k ≤ s.size ∧ i = .int .i64 k ∧ Hid ((s.data.toList.take k).all (fun c => smallB c.toNat) = true)) (fun i => s.size - (intOf i).toNat)
  case atStart => exact ⟨0, Nat.zero_le _, rfl, rfl⟩
  case round =>
    obtain ⟨k, hk, rfl, Hall⟩ := hrel
    by_cases hlt : k < s.size
    · have hts := take_snoc s k hlt
      have Hts := Lib.hid hts
      clear hts
      have hbad : smallB (s[k].toNat : Int) = false → prefB s = false := fun hl => by
        rw [E.out, List.all_eq_false]
        exact ⟨s[k], mem_at s k hlt, by simp [hl]⟩
      have hgood : smallB (s[k].toNat : Int) = true → Hid ((s.data.toList.take (k + 1)).all (fun c => smallB c.toNat) = true) := fun hl => by
        show _ = _
        rw [Hts.out, List.all_append, Hall.out]
        simp [hl]
      have HBAD := Lib.hid hbad
      have HGOOD := Lib.hid hgood
      clear hbad hgood
      by_cases a1 : (s[k].toNat : Int) < 97
      · have hb := HBAD.out (small_not.2 (.inl a1))
        have HB := Lib.hid hb
        clear hb
        go_wp2_with fail
        go_ret
        exact ⟨ret_bool HB.out.symm, rfl⟩
      · by_cases a2 : 122 < (s[k].toNat : Int)
        · have hb := HBAD.out (small_not.2 (.inr a2))
          have HB := Lib.hid hb
          clear hb
          go_wp2_with fail
          go_ret
          exact ⟨ret_bool HB.out.symm, rfl⟩
        · have hg := HGOOD.out (by rcases Bool.eq_false_or_eq_true (smallB (s[k].toNat : Int)) with h | h; exact h; have := small_not.1 h; omega)
          go_wp2_with fail
          go_round
          case rel => exact ⟨k + 1, by omega, by go_num, hg⟩
          case measure => simp [intOf]; omega
    · go_wp2
      go_ret
      exact ⟨ret_bool (by rw [E.out, ← Hall.out, List.take_of_length_le (by rw [len_eq]; omega)]), rfl⟩
theorem prefix_any (s : ByteArray) (w : World) :
    Calls Try.prog 36 #[.string s] w fun e w' => e = .returned (.bool (prefB s)) ∧ w = w' := by
  by_cases h0 : s.size < 1
  · go_enter Try.func36, Try.ntmps36
    go_wp2
    go_ret
    exact ⟨ret_bool (by unfold prefB; rw [show decide (1 ≤ s.size) = false from decide_eq_false (by omega)]; simp), rfl⟩
  by_cases h1 : 8 < s.size
  · go_enter Try.func36, Try.ntmps36
    go_wp2
    go_ret
    exact ⟨ret_bool (by unfold prefB; rw [show decide (s.size ≤ 8) = false from decide_eq_false (by omega)]; simp), rfl⟩
  have e : prefB s = s.data.toList.all fun c => smallB c.toNat := by
    unfold prefB
    rw [show decide (1 ≤ s.size) = true from decide_eq_true (by omega), show decide (s.size ≤ 8) = true from decide_eq_true (by omega)]
    rfl
  have E := Lib.hid e
  clear e
  go_enter Try.func36, Try.ntmps36
  go_wp2
  go_loop [3] (fun i => ∃ k : Nat, k ≤ s.size ∧ i = .int .i64 k ∧ Hid ((s.data.toList.take k).all (fun c => smallB c.toNat) = true)) (fun i => s.size - (intOf i).toNat)
  case atStart => exact ⟨0, Nat.zero_le _, rfl, rfl⟩
  case round =>
    obtain ⟨k, hk, rfl, Hall⟩ := hrel
    by_cases hlt : k < s.size
    · have hts := take_snoc s k hlt
      have Hts := Lib.hid hts
      clear hts
      have hbad : smallB (s[k].toNat : Int) = false → prefB s = false := fun hl => by
        rw [E.out, List.all_eq_false]
        exact ⟨s[k], mem_at s k hlt, by simp [hl]⟩
      have hgood : smallB (s[k].toNat : Int) = true → Hid ((s.data.toList.take (k + 1)).all (fun c => smallB c.toNat) = true) := fun hl => by
        show _ = _
        rw [Hts.out, List.all_append, Hall.out]
        simp [hl]
      have HBAD := Lib.hid hbad
      have HGOOD := Lib.hid hgood
      clear hbad hgood
      by_cases a1 : (s[k].toNat : Int) < 97
      · have hb := HBAD.out (small_not.2 (.inl a1))
        have HB := Lib.hid hb
        clear hb
        go_wp2_with fail
        go_ret
        exact ⟨ret_bool HB.out.symm, rfl⟩
      · by_cases a2 : 122 < (s[k].toNat : Int)
        · have hb := HBAD.out (small_not.2 (.inr a2))
          have HB := Lib.hid hb
          clear hb
          go_wp2_with fail
          go_ret
          exact ⟨ret_bool HB.out.symm, rfl⟩
        · have hg := HGOOD.out (by rcases Bool.eq_false_or_eq_true (smallB (s[k].toNat : Int)) with h | h; exact h; have := small_not.1 h; omega)
          go_wp2_with fail
          go_round
          case rel => exact ⟨k + 1, by omega, by go_num, hg⟩
          case measure => simp [intOf]; omega
    · go_wp2
      go_ret
      exact ⟨ret_bool (by rw [E.out, ← Hall.out, List.take_of_length_le (by rw [len_eq]; omega)]), rfl⟩

/-! ### What begins with a prefix -/
def begB (s p : ByteArray) : Bool := decide (p.size ≤ s.size) && ((s.extract 0 p.size).toList == p.toList)
theorem hasPrefix_any (s p : ByteArray) (w : World) :
    Calls Try.prog 82 #[.string s, .string p] w fun e w' => e = .returned (.bool (begB s p)) ∧ w = w' := by
  by_cases h : p.size ≤ s.size
  · have h1 : (p.size : Int) ≤ (s.size : Int) := by omega
    go_enter Try.func82, Try.ntmps82
    go_wp2
    go_ret
    exact ⟨ret_bool (by unfold begB; simp [h]), rfl⟩
  · have h1 : ¬ (p.size : Int) ≤ (s.size : Int) := by omega
    go_enter Try.func82, Try.ntmps82
    go_wp2
    go_ret
    exact ⟨ret_bool (by unfold begB; simp [h]), rfl⟩
theorem cutPrefix_any (s p : ByteArray) (w : World) :
    Calls Try.prog 76 #[.string s, .string p] w fun e w' => e = .returned (.tuple #[.string (if begB s p = true then s.extract p.size s.size else s), .bool (begB s p)]) ∧ w = w' := by
  rcases Bool.eq_false_or_eq_true (begB s p) with h | h
  · have hle : p.size ≤ s.size := by unfold begB at h; simp at h; exact h.1
    have hle2 : (p.size : Int) ≤ (s.size : Int) := by omega
    have H := hasPrefix_any s p w
    rw [h] at H ⊢
    have HH := Lib.hid H
    clear H h
    go_enter Try.func76, Try.ntmps76
    go_wp2_with (go_at_call 82; refine HH.out.mono ?_; rintro e w1 ⟨rfl, rfl⟩)
    go_ret2
    exact ⟨rfl, rfl⟩
  · have H := hasPrefix_any s p w
    rw [h] at H ⊢
    have HH := Lib.hid H
    clear H h
    go_enter Try.func76, Try.ntmps76
    go_wp2_with (go_at_call 82; refine HH.out.mono ?_; rintro e w1 ⟨rfl, rfl⟩)
    go_ret2
    exact ⟨rfl, rfl⟩
theorem cut_any (s p : ByteArray) (w : World) :
    Calls Try.prog 69 #[.string s, .string p] w fun e w' => e = .returned (.tuple #[.string (if begB s p = true then s.extract p.size s.size else s), .bool (begB s p)]) ∧ w = w' := by
  have H := cutPrefix_any s p w
  rcases Bool.eq_false_or_eq_true (begB s p) with h | h
  all_goals
    rw [h] at H ⊢
    have HH := Lib.hid H
    clear H h
    go_enter Try.func69, Try.ntmps69
    go_wp2_with (go_at_call 76; refine HH.out.mono ?_; rintro e w1 ⟨rfl, rfl⟩)
    go_ret2
    exact ⟨rfl, rfl⟩
end Go.Proofs.Ytkecjopojnllnaa
namespace Go.Proofs.Ytkecjopojnllnaa
open Go.RowKit Go.Deep Go.Joins

def digB (c : Int) : Bool := decide (48 ≤ c) && decide (c ≤ 57)
theorem dig_not {c : Int} : digB c = false ↔ c < 48 ∨ 57 < c := by
  unfold digB
  simp only [Bool.and_eq_false_iff, decide_eq_false_iff_not]
  omega
theorem dig_yes {c : Int} : digB c = true ↔ 48 ≤ c ∧ c ≤ 57 := by
  unfold digB
  simp only [Bool.and_eq_true, decide_eq_true_eq]
def valL (L : List UInt8) : Nat := L.foldl (fun n c => n * 10 + (c.toNat - 48)) 0
theorem valL_snoc (L : List UInt8) (c : UInt8) : valL (L ++ [c]) = valL L * 10 + (c.toNat - 48) := by unfold valL; rw [List.foldl_append]; rfl
/-- The letters behind the prefix and its point. -/
def tailB (p nm : ByteArray) : ByteArray := nm.extract (p.size + 1) nm.size
def dotB (p : ByteArray) : ByteArray := p ++ ⟨#[46]⟩
def numB (p nm : ByteArray) : Option Nat := if begB nm (dotB p) = true ∧ (tailB p nm).size = 6 ∧ (tailB p nm).data.toList.all (fun c => digB c.toNat) = true then some (valL (tailB p nm).data.toList) else none
def numV (o : Option Nat) : Value := match o with | some n => .tuple #[.int .i64 (n : Int), .bool true] | none => .tuple #[.int .i64 0, .bool false]
theorem dotB_size (p : ByteArray) : (dotB p).size = p.size + 1 := by unfold dotB; rw [ByteArray.size_append]; rfl

theorem tail_eq (p nm : ByteArray) : nm.extract (p ++ ⟨#[46]⟩).size nm.size = tailB p nm := by
  have := dotB_size p
  unfold dotB at this
  rw [this]; rfl
theorem val_from (L : List UInt8) (h : ∀ c ∈ L, (c.toNat : Int) ≤ 57) : ∀ n, L.foldl (fun n c => n * 10 + (c.toNat - 48)) n + 1 ≤ (n + 1) * 10 ^ L.length := by
  induction L with
  | nil => intro n; simp
  | cons c L ih =>
    intro n
    have h1 := ih (fun d hd => h d (List.mem_cons_of_mem _ hd)) (n * 10 + (c.toNat - 48))
    have h2 := h c (by simp)
    rw [List.foldl_cons, List.length_cons, Nat.pow_succ]
    refine Nat.le_trans h1 ?_
    have h3 : n * 10 + (c.toNat - 48) + 1 ≤ (n + 1) * 10 := by omega
    have h4 := Nat.mul_le_mul_right (10 ^ L.length) h3
    have e : (n + 1) * (10 ^ L.length * 10) = (n + 1) * 10 * 10 ^ L.length := by rw [Nat.mul_comm (10 ^ L.length), Nat.mul_assoc]
    omega
theorem val_lt (L : List UInt8) (h : ∀ c ∈ L, (c.toNat : Int) ≤ 57) : valL L + 1 ≤ 10 ^ L.length := by
  have := val_from L h 0
  unfold valL
  omega

set_option maxRecDepth 100000 in
set_option maxHeartbeats 1000000 in
theorem number_any (p nm : ByteArray) (w : World) (hp : p.size ≤ 1000) :
    Calls Try.prog 49 #[.string p, .string nm] w fun e w' => e = .returned (numV (numB p nm)) ∧ w = w' := by
  have HC := Lib.hid (cut_any nm (dotB p) w)
  unfold dotB at HC
  have hp2 : ¬ 9223372036854775807 < p.size + 1 := by omega
  by_cases hbeg : begB nm (dotB p) = true
  · have hb2 : begB nm (p ++ ⟨#[46]⟩) = true := by simpa [dotB] using hbeg
    rw [hb2, if_pos rfl, tail_eq] at HC
    obtain ⟨t, ht⟩ : ∃ t, tailB p nm = t := ⟨_, rfl⟩
    have hnum : numB p nm = if t.size = 6 ∧ t.data.toList.all (fun c => digB c.toNat) = true then some (valL t.data.toList) else none := by
      unfold numB
      rw [ht]
      by_cases h : t.size = 6 ∧ t.data.toList.all (fun c => digB c.toNat) = true
      · rw [if_pos h, if_pos ⟨hbeg, h⟩]
      · rw [if_neg h, if_neg (fun k => h k.2)]
    rw [ht] at HC
    have HN := Lib.hid hnum
    clear hnum ht hbeg hb2
    by_cases h6 : t.size = 6
    · have h6' : (t.size : Int) = 6 := by omega
      go_enter Try.func49, Try.ntmps49
      go_wp2_with (go_at_call 69; refine HC.out.mono ?_; rintro e w1 ⟨rfl, rfl⟩)
      go_loop [26, 8] (fun i v => ∃ k n : Nat, k ≤ t.size ∧ i = .int .i64 k ∧ v = .int .i64 n ∧ n ≤ 999999 ∧ Hid (n = valL (t.data.toList.take k) ∧ (t.data.toList.take k).all (fun c => digB c.toNat) = true)) (fun i _ => t.size - (intOf i).toNat)
      case atStart => exact ⟨0, 0, Nat.zero_le _, rfl, rfl, by omega, rfl, rfl⟩
      case round =>
        obtain ⟨k, n, hk, rfl, rfl, hn, hv⟩ := hrel
        by_cases hlt : k < t.size
        · have hts := take_snoc t k hlt
          have Hts := Lib.hid hts
          clear hts
          have hbad : digB (t[k].toNat : Int) = false → numB p nm = none := fun hl => by
            rw [HN.out, if_neg]
            rintro ⟨_, h⟩
            rw [List.all_eq_true] at h
            have := h t[k] (mem_at t k hlt)
            rw [hl] at this
            cases this
          have HBAD := Lib.hid hbad
          clear hbad
          by_cases a1 : (t[k].toNat : Int) < 48
          · have hb := HBAD.out (dig_not.2 (.inl a1))
            have HB := Lib.hid hb
            clear hb
            go_wp2_with fail
            go_ret2
            exact ⟨by rw [HB.out]; rfl, rfl⟩
          · by_cases a2 : 57 < (t[k].toNat : Int)
            · have hb := HBAD.out (dig_not.2 (.inr a2))
              have HB := Lib.hid hb
              clear hb
              go_wp2_with fail
              go_ret2
              exact ⟨by rw [HB.out]; rfl, rfl⟩
            · have hval : n * 10 + (t[k].toNat - 48) = valL (t.data.toList.take (k + 1)) ∧ (t.data.toList.take (k + 1)).all (fun c => digB c.toNat) = true := by
                rw [Hts.out, valL_snoc, ← hv.out.1, List.all_append, hv.out.2]
                exact ⟨rfl, by simp [dig_yes]; omega⟩
              have hbound : n * 10 + (t[k].toNat - 48) ≤ 999999 := by
                have h1 := val_lt (t.data.toList.take (k + 1)) (fun c hc => (dig_yes.1 (List.all_eq_true.1 hval.2 c hc)).2)
                have h2 : (t.data.toList.take (k + 1)).length = k + 1 := by rw [List.length_take, len_eq]; omega
                rw [h2, ← hval.1] at h1
                have h3 : 10 ^ (k + 1) ≤ 10 ^ 6 := Nat.pow_le_pow_right (by decide) (by omega)
                omega
              have HVAL := Lib.hid hval
              have w1 : IntKind.i64.wrap ((n : Int) * 10) = (n : Int) * 10 := IntWalk.i64_in _ (by omega)
              have w2 : IntKind.u8.wrap ((t[k].toNat : Int) - 48) = (t[k].toNat : Int) - 48 := IntWalk.u8_in _ (by omega)
              have w3 : IntKind.i64.wrap ((t[k].toNat : Int) - 48) = (t[k].toNat : Int) - 48 := IntWalk.i64_in _ (by omega)
              have w4 : IntKind.i64.wrap ((n : Int) * 10 + ((t[k].toNat : Int) - 48)) = (n : Int) * 10 + ((t[k].toNat : Int) - 48) := IntWalk.i64_in _ (by omega)
              clear hval
              go_wp2_with fail
              go_round
              case rel => exact ⟨k + 1, n * 10 + (t[k].toNat - 48), by omega, by go_num, by go_num, hbound, HVAL.out⟩
              case measure => simp [intOf]; omega
        · have hfin : numB p nm = some n := by
            have h := hv.out
            rw [List.take_of_length_le (by rw [len_eq]; omega)] at h
            rw [HN.out, if_pos ⟨h6, h.2⟩, h.1]
          have HF := Lib.hid hfin
          clear hfin
          go_wp2_with fail
          go_ret2
          exact ⟨by rw [HF.out]; rfl, rfl⟩
    · have h6' : ¬ (t.size : Int) = 6 := by omega
      have h6b : ((t.size : Int) != 6) = true := by simpa using h6'
      have hfin : numB p nm = none := by rw [HN.out, if_neg (fun h => h6 h.1)]
      rw [hfin]
      go_enter Try.func49, Try.ntmps49
      go_wp2_with (go_at_call 69; refine HC.out.mono ?_; rintro e w1 ⟨rfl, rfl⟩)
      go_ret2
      exact ⟨rfl, rfl⟩
  · have hnum : numB p nm = none := by unfold numB; rw [if_neg (fun h => hbeg h.1)]
    rw [hnum]
    have hb2 : begB nm (p ++ ⟨#[46]⟩) = false := by simpa [dotB] using hbeg
    rw [hb2, if_neg (by decide)] at HC
    clear hbeg
    go_enter Try.func49, Try.ntmps49
    go_wp2_with (go_at_call 69; refine HC.out.mono ?_; rintro e w1 ⟨rfl, rfl⟩)
    go_ret2
    exact ⟨rfl, rfl⟩
end Go.Proofs.Ytkecjopojnllnaa
namespace Go.Proofs.Ytkecjopojnllnaa
open Go.RowKit Go.Deep Go.Joins

theorem ext_list (b : ByteArray) (s e : Nat) : (b.extract s e).data.toList = (b.data.toList.take e).drop s := by
  rw [ByteArray.data_extract, Array.toList_extract]
  simp [List.extract, List.drop_take]
theorem ba_inj {a b : ByteArray} (h : a.data.toList = b.data.toList) : a = b := ByteArray.ext (Array.toList_inj.1 h)
theorem begB_iff {s p : ByteArray} : begB s p = true ↔ s.data.toList.take p.size = p.data.toList := by
  unfold begB
  rw [Bool.and_eq_true, decide_eq_true_eq, beq_iff_eq, ByteArray.toList_eq, ByteArray.toList_eq, ext_list, List.drop_zero]
  refine ⟨fun h => h.2, fun h => ⟨?_, h⟩⟩
  have := congrArg List.length h
  rw [List.length_take, len_eq, len_eq] at this
  omega
theorem dotB_list (p : ByteArray) : (dotB p).data.toList = p.data.toList ++ [46] := by unfold dotB; simp
theorem tailB_list (p nm : ByteArray) : (tailB p nm).data.toList = nm.data.toList.drop (p.size + 1) := by
  unfold tailB
  rw [ext_list, List.take_of_length_le (by rw [len_eq]; exact Nat.le_refl _)]
/-- A segment's name, taken apart. -/
structure NumAt (p nm : ByteArray) : Prop where
  size : nm.size = p.size + 7
  pref : nm.data.toList.take p.size = p.data.toList
  point : nm.data.toList[p.size]? = some 46
  digs : (nm.data.toList.drop (p.size + 1)).all (fun c => digB c.toNat) = true
theorem numB_iff {p nm : ByteArray} {n : Nat} : numB p nm = some n ↔ NumAt p nm ∧ n = valL (nm.data.toList.drop (p.size + 1)) := by
  have hl := len_eq nm
  have hlp := len_eq p
  have ht : (tailB p nm).size = nm.size - (p.size + 1) := by rw [← len_eq, tailB_list, List.length_drop, hl]
  have hbeg : begB nm (dotB p) = true ↔ nm.data.toList.take p.size = p.data.toList ∧ nm.data.toList[p.size]? = some 46 := by
    rw [begB_iff, dotB_size, dotB_list, List.take_add_one]
    constructor
    · intro h
      by_cases hlt : p.size < nm.size
      · have e : nm.data.toList[p.size]? = some (nm.data.toList[p.size]'(by omega)) := List.getElem?_eq_getElem _
        rw [e] at h ⊢
        have h2 := List.append_inj h (by rw [List.length_take]; omega)
        exact ⟨h2.1, congrArg some (by simpa using h2.2)⟩
      · rw [List.getElem?_eq_none (by omega)] at h
        have := congrArg List.length h
        simp only [List.length_append, List.length_take, Option.toList_none, List.length_nil, List.length_singleton] at this
        omega
    · rintro ⟨h1, h2⟩
      rw [h1, h2]; rfl
  unfold numB
  rw [tailB_list]
  constructor
  · intro h
    split at h
    · rename_i hc
      obtain ⟨h1, h2, h3⟩ := hc
      obtain ⟨k1, k2⟩ := hbeg.1 h1
      exact ⟨⟨by omega, k1, k2, h3⟩, (Option.some.inj h).symm⟩
    · cases h
  · rintro ⟨h, rfl⟩
    rw [if_pos ⟨hbeg.2 ⟨h.pref, h.point⟩, by rw [ht, h.size]; omega, h.digs⟩]
def numI (o : Option Nat) : Int := match o with | some n => n | none => -1
theorem numB_none {p nm : ByteArray} (h : ¬ NumAt p nm) : numB p nm = none := by
  cases hn : numB p nm with
  | none => rfl
  | some n => exact absurd (numB_iff.1 hn).1 h

set_option maxRecDepth 100000 in
set_option maxHeartbeats 1000000 in
theorem number2_any (p nm : ByteArray) (w : World) (hp : p.size ≤ 1000) :
    Calls Try.prog 58 #[.string nm, .string p] w fun e w' => e = .returned (.int .i64 (numI (numB p nm))) ∧ w = w' := by
  have w1 : IntKind.i64.wrap ((p.size : Int) + 7) = (p.size : Int) + 7 := IntWalk.i64_in _ (by omega)
  have w2 : IntKind.i64.wrap ((p.size : Int) + 1) = (p.size : Int) + 1 := IntWalk.i64_in _ (by omega)
  by_cases hsz : nm.size = p.size + 7
  · have s1 : ((nm.size : Int) != (p.size : Int) + 7) = false := by rw [bne_eq_false_iff_eq]; omega
    have s2 : (p.size : Int) ≤ (nm.size : Int) := by omega
    have s3 : (p.size : Int) < (nm.size : Int) := by omega
    have hlt0 : p.size < nm.size := by omega
    by_cases hpre : (nm.extract 0 p.size).toList = p.toList
    · have p1 : ((nm.extract 0 p.size).toList != p.toList) = false := by rw [bne_eq_false_iff_eq]; exact hpre
      have p2 : ((nm.extract 0 p.size).toList == p.toList) = true := by rw [beq_iff_eq]; exact hpre
      have HPRE := Lib.hid hpre
      have HSZ := Lib.hid hsz
      clear hpre hsz
      by_cases hdot : (nm[p.size].toNat : Int) = 46
      · have d1 : ((nm[p.size].toNat : Int) != 46) = false := by rw [hdot]; rfl
        have d2 : nm[p.size].toNat = 46 := by omega
        have hbase : NumAt p nm ↔ (nm.data.toList.drop (p.size + 1)).all (fun c => digB c.toNat) = true := by
          refine ⟨fun h => h.digs, fun h => ⟨HSZ.out, ?_, ?_, h⟩⟩
          · have := HPRE.out
            rw [ByteArray.toList_eq, ByteArray.toList_eq, ext_list, List.drop_zero] at this
            exact this
          · rw [List.getElem?_eq_getElem (by rw [len_eq]; omega)]
            have : nm[p.size] = 46 := UInt8.toNat_inj.1 d2
            exact congrArg some this
        obtain ⟨t, ht⟩ : ∃ t, nm.data.toList.drop (p.size + 1) = t := ⟨_, rfl⟩
        have htl : t.length = 6 := by rw [← ht, List.length_drop, len_eq, HSZ.out]; omega
        have hsn : ∀ k (h : k < 6), t.take (k + 1) = t.take k ++ [nm[p.size + 1 + k]'(by have := HSZ.out; omega)] := fun k h => by
          rw [List.take_succ_eq_append_getElem (by omega)]
          congr 2
          subst ht
          rw [List.getElem_drop]
          rfl
        rw [ht] at hbase
        have HB := Lib.hid hbase
        have HT := Lib.hid ht
        have HTL := Lib.hid htl
        have HSN := Lib.hid hsn
        clear hbase ht htl hsn
        go_enter Try.func58, Try.ntmps58
        go_wp2_with fail
        go_loop [6, 5] (fun i v => ∃ k n : Nat, k ≤ 6 ∧ i = .int .i64 ((p.size + 1 + k : Nat) : Int) ∧ v = .int .i64 n ∧ n ≤ 999999 ∧ Hid (n = valL (t.take k) ∧ (t.take k).all (fun c => digB c.toNat) = true)) (fun i _ => nm.size - (intOf i).toNat)
        case atStart => exact ⟨0, 0, Nat.zero_le _, by go_num, rfl, by omega, rfl, rfl⟩
        case round =>
          obtain ⟨k, n, hk, rfl, rfl, hn, hv⟩ := hrel
          obtain ⟨j, hj⟩ : ∃ j, p.size + 1 + k = j := ⟨_, rfl⟩
          rw [hj]
          by_cases hlt : k < 6
          · have hjn : j < nm.size := by have := HSZ.out; omega
            have hjn2 : (j : Int) < (nm.size : Int) := by omega
            have hts : t.take (k + 1) = t.take k ++ [nm[j]] := by
              subst hj
              exact HSN.out k hlt
            have Hts := Lib.hid hts
            have HJ := Lib.hid hj
            clear hts hj
            have hbad : digB (nm[j].toNat : Int) = false → numI (numB p nm) = -1 := fun hl => by
              rw [numB_none]
              · rfl
              intro h
              have h2 := HB.out.1 h
              rw [List.all_eq_true] at h2
              have h3 : nm[j] ∈ t := List.mem_of_mem_take (i := k + 1) (by rw [Hts.out]; simp)
              have := h2 nm[j] h3
              rw [hl] at this
              cases this
            have HBAD := Lib.hid hbad
            clear hbad
            by_cases a1 : (nm[j].toNat : Int) < 48
            · have hb := HBAD.out (dig_not.2 (.inl a1))
              have HBB := Lib.hid hb
              clear hb
              go_wp2_with fail
              go_ret
              exact ⟨by rw [HBB.out]; rfl, rfl⟩
            · by_cases a2 : 57 < (nm[j].toNat : Int)
              · have hb := HBAD.out (dig_not.2 (.inr a2))
                have HBB := Lib.hid hb
                clear hb
                go_wp2_with fail
                go_ret
                exact ⟨by rw [HBB.out]; rfl, rfl⟩
              · have hval : n * 10 + (nm[j].toNat - 48) = valL (t.take (k + 1)) ∧ (t.take (k + 1)).all (fun c => digB c.toNat) = true := by
                  rw [Hts.out, valL_snoc, ← hv.out.1, List.all_append, hv.out.2]
                  exact ⟨rfl, by simp [dig_yes]; omega⟩
                have hbound : n * 10 + (nm[j].toNat - 48) ≤ 999999 := by
                  have h1 := val_lt (t.take (k + 1)) (fun c hc => (dig_yes.1 (List.all_eq_true.1 hval.2 c hc)).2)
                  have h2 : (t.take (k + 1)).length = k + 1 := by rw [List.length_take, HTL.out]; omega
                  rw [h2, ← hval.1] at h1
                  have h3 : 10 ^ (k + 1) ≤ 10 ^ 6 := Nat.pow_le_pow_right (by decide) (by omega)
                  omega
                have HVAL := Lib.hid hval
                have w3 : IntKind.i64.wrap ((n : Int) * 10) = (n : Int) * 10 := IntWalk.i64_in _ (by omega)
                have w4 : IntKind.u8.wrap ((nm[j].toNat : Int) - 48) = (nm[j].toNat : Int) - 48 := IntWalk.u8_in _ (by omega)
                have w5 : IntKind.i64.wrap ((nm[j].toNat : Int) - 48) = (nm[j].toNat : Int) - 48 := IntWalk.i64_in _ (by omega)
                have w6 : IntKind.i64.wrap ((n : Int) * 10 + ((nm[j].toNat : Int) - 48)) = (n : Int) * 10 + ((nm[j].toNat : Int) - 48) := IntWalk.i64_in _ (by omega)
                have w7 : IntKind.i64.wrap ((j : Int) + 1) = (j : Int) + 1 := IntWalk.i64_in _ (by have := HSZ.out; omega)
                clear hval
                go_wp2_with fail
                go_round
                case rel => exact ⟨k + 1, n * 10 + (nm[j].toNat - 48), by omega, by have := HJ.out; go_num, by go_num, hbound, HVAL.out⟩
                case measure => simp [intOf]; omega
          · have hfin : numI (numB p nm) = n := by
              have h := hv.out
              rw [List.take_of_length_le (by rw [HTL.out]; omega)] at h
              have h2 : numB p nm = some n := numB_iff.2 ⟨HB.out.2 h.2, by rw [HT.out]; exact h.1⟩
              rw [h2]; rfl
            have HF := Lib.hid hfin
            have hjn : ¬ (j : Int) < (nm.size : Int) := by have := HSZ.out; omega
            clear hfin hj
            go_wp2_with fail
            go_ret
            exact ⟨by rw [HF.out]; rfl, rfl⟩
      · have d1 : ((nm[p.size].toNat : Int) != 46) = true := by simpa using hdot
        have hfin : numI (numB p nm) = -1 := by
          rw [numB_none]
          · rfl
          intro h
          have h2 := h.point
          rw [List.getElem?_eq_getElem (by rw [len_eq]; omega)] at h2
          have h3 : nm[p.size] = 46 := Option.some.inj h2
          rw [h3] at hdot
          exact hdot rfl
        have HF := Lib.hid hfin
        clear hfin
        go_enter Try.func58, Try.ntmps58
        go_wp2_with fail
        go_ret
        exact ⟨by rw [HF.out]; rfl, rfl⟩
    · have p1 : ((nm.extract 0 p.size).toList != p.toList) = true := by simpa using hpre
      have p2 : ((nm.extract 0 p.size).toList == p.toList) = false := by simpa using hpre
      have hfin : numI (numB p nm) = -1 := by
        rw [numB_none]
        · rfl
        intro h
        refine hpre ?_
        rw [ByteArray.toList_eq, ByteArray.toList_eq, ext_list, List.drop_zero]
        exact h.pref
      have HF := Lib.hid hfin
      clear hfin hpre
      go_enter Try.func58, Try.ntmps58
      go_wp2_with fail
      go_ret
      exact ⟨by rw [HF.out]; rfl, rfl⟩
  · have s1 : ((nm.size : Int) != (p.size : Int) + 7) = true := by simp; omega
    have hfin : numI (numB p nm) = -1 := by
      rw [numB_none]
      · rfl
      exact fun h => hsz h.size
    have HF := Lib.hid hfin
    clear hfin
    go_enter Try.func58, Try.ntmps58
    go_wp2_with fail
    go_ret
    exact ⟨by rw [HF.out]; rfl, rfl⟩
end Go.Proofs.Ytkecjopojnllnaa
namespace Go.Proofs.Ytkecjopojnllnaa
open Go.RowKit Go.Deep Go.Joins

/-- Digit number j of six. -/
def dgt (n j : Nat) : Nat := 48 + (n / 10 ^ (5 - j)) % 10
/-- The six letters, once those from number t on are written. -/
def dg (n t j : Nat) : UInt8 := if t ≤ j then UInt8.ofNat (dgt n j) else 0
def dgs (n t : Nat) : List UInt8 := [dg n t 0, dg n t 1, dg n t 2, dg n t 3, dg n t 4, dg n t 5]
theorem dgt_lt (n j : Nat) : dgt n j ≤ 57 ∧ 48 ≤ dgt n j := by unfold dgt; omega
theorem dg_at (n t : Nat) : ((dg n t t).toNat : Int) = (dgt n t : Nat) := by
  have := dgt_lt n t
  unfold dg
  rw [if_pos (Nat.le_refl _), UInt8.toNat_ofNat']
  omega
theorem dg_set (n t : Nat) (ht : t < 6) : (bcells (dgs n (t + 1))).setIfInBounds t (.int .u8 ((dgt n t : Nat) : Int)) = bcells (dgs n t) := by
  have e := dg_at n t
  have hz : ∀ j, j < t → dg n (t + 1) j = 0 ∧ dg n t j = 0 := fun j h => by unfold dg; rw [if_neg (by omega), if_neg (by omega)]; exact ⟨rfl, rfl⟩
  have hs : ∀ j, t < j → dg n (t + 1) j = dg n t j := fun j h => by unfold dg; rw [if_pos (by omega), if_pos (by omega)]
  rw [← e]
  obtain rfl | rfl | rfl | rfl | rfl | rfl : t = 0 ∨ t = 1 ∨ t = 2 ∨ t = 3 ∨ t = 4 ∨ t = 5 := by omega
  all_goals
    unfold dgs bcells
    simp [hz, hs]
theorem dgs_none (n : Nat) : dgs n 6 = [0, 0, 0, 0, 0, 0] := by unfold dgs dg; simp
def nameOf (p : ByteArray) (n : Nat) : ByteArray := p ++ ⟨#[46]⟩ ++ ⟨(dgs n 0).toArray⟩
theorem next_div (n t : Nat) (ht : t < 6) : n / 10 ^ (5 - t) / 10 = n / 10 ^ (6 - t) := by
  rw [Nat.div_div_eq_div_mul, ← Nat.pow_succ, show (5 - t).succ = 6 - t by omega]

set_option maxRecDepth 100000 in
set_option maxHeartbeats 1000000 in
theorem name_any (p : ByteArray) (n : Nat) (w : World) (hp : p.size ≤ 1000) (hn : n ≤ 9223372036854775807) :
    Calls Try.prog 22 #[.string p, .int .i64 n] w fun e w' => e = .returned (.string (nameOf p n)) ∧ Below w.heap.size w w' := by
  have hp1 : ¬ 9223372036854775807 < p.size + 1 := by omega
  go_enter Try.func22, Try.ntmps22
  go_wp2_with fail
  go_loopw [6, 1] (fun k i wr => ∃ t m : Nat, t ≤ 6 ∧ k = .int .i64 ((t : Int) - 1) ∧ i = .int .i64 (m : Int) ∧ m ≤ n ∧ Hid (m = n / 10 ^ (6 - t)) ∧ Hid (wr.heap[w.heap.size]? = some (.cells (bcells (dgs n t)) 85 (0, 0))) ∧ Hid (Below w.heap.size w wr)) (fun k _ _ => ((intOf k) + 1).toNat)
  case atStart =>
    refine ⟨6, n, Nat.le_refl _, by go_num, rfl, Nat.le_refl _, by show _ = _; simp, ?_, below1 _ _⟩
    show _ = _
    rw [dgs_none, heap_alloc_new]
    rfl
  case round =>
    obtain ⟨t, m, ht, rfl, rfl, hmn, hm, hrow, hbl⟩ := hrel
    by_cases hlt : 0 < t
    · obtain ⟨s, rfl⟩ : ∃ s, t = s + 1 := ⟨t - 1, by omega⟩
      have e1 : ((s + 1 : Nat) : Int) - 1 = (s : Int) := by omega
      rw [e1]
      have c1 : (0 : Int) ≤ (s : Int) := by omega
      have c2 : (s : Int) < 6 := by omega
      have hcell : wr.cell? ⟨w.heap.size, s, none⟩ = some (.int .u8 ((dg n (s + 1) s).toNat : Int)) := by
        rw [cell_of_row _ _ _ _ 85 _ hrow.out]
        obtain rfl | rfl | rfl | rfl | rfl | rfl : s = 0 ∨ s = 1 ∨ s = 2 ∨ s = 3 ∨ s = 4 ∨ s = 5 := by omega
        all_goals rfl
      have hfz := frozen_of_row wr w.heap.size s _ 85 hrow.out
      have hlw := lt_of_cell hcell
      have w1 : IntKind.u8.wrap ((m : Int) % 10) = (m : Int) % 10 := IntWalk.u8_in _ (by omega)
      have w2 : IntKind.u8.wrap (48 + (m : Int) % 10) = 48 + (m : Int) % 10 := IntWalk.u8_in _ (by omega)
      have w3 : IntKind.i64.wrap ((s : Int) - 1) = (s : Int) - 1 := IntWalk.i64_in _ (by omega)
      have r1 : ((m : Int)).tmod 10 = (m : Int) % 10 := IntWalk.rem_in _ _ (by omega)
      have hset : (wr.setCell ⟨w.heap.size, s, none⟩ (.int .u8 (48 + (m : Int) % 10))).heap[w.heap.size]? = some (.cells (bcells (dgs n s)) 85 (0, 0)) := by
        rw [heap_setCell_same wr _ s _ 85 _ hrow.out, ← dg_set n s (by omega)]
        have e : (48 + (m : Int) % 10) = ((dgt n s : Nat) : Int) := by
          have := hm.out
          unfold dgt
          rw [show 6 - (s + 1) = 5 - s by omega] at this
          rw [← this]
          omega
        rw [e]
      have hb2 := nb_set (Nat.le_refl _) hbl.out s (.int .u8 (48 + (m : Int) % 10))
      have HSET := Lib.hid hset
      have HB2 := Lib.hid hb2
      clear hset hb2
      go_wp2_with fail
      case roundEnd =>
        refine ⟨⟨s, m / 10, by omega, rfl, by go_num, Nat.le_trans (Nat.div_le_self _ _) hmn, ?_, HSET.out, HB2.out⟩, ?_⟩
        · show _ = _
          have := hm.out
          rw [show 6 - (s + 1) = 5 - s by omega] at this
          rw [this]
          exact next_div n s (by omega)
        · simp [intOf]
    · obtain rfl : t = 0 := by omega
      have hcv := run_string_of_row (P := Try.prog) wr 86 9 5 w.heap.size 6 6 (dgs n 0) 85 (0, 0) Try.underlying86 Try.underlying5 Try.underlying9 hrow.out rfl
      have hsz : (ByteArray.mk (dgs n 0).toArray).size = 6 := rfl
      have hp2 : ¬ 9223372036854775807 < p.size + 1 + 6 := by omega
      have hps : (p ++ ⟨#[46]⟩).size = p.size + 1 := dotB_size p
      have hlw := (Array.getElem?_eq_some_iff.1 hrow.out).1
      go_wp2_with fail
      go_ret
      exact ⟨rfl, hbl.out⟩
end Go.Proofs.Ytkecjopojnllnaa
namespace Go.Proofs.Ytkecjopojnllnaa
open Go.RowKit Go.Deep Go.Joins

set_option maxRecDepth 100000 in
set_option maxHeartbeats 1000000 in
theorem name3_any (p : ByteArray) (n : Nat) (w : World) (hp : p.size ≤ 1000) (hn : n ≤ 9223372036854775807) :
    Calls Try.prog 23 #[.string p, .int .i64 n] w fun e w' => e = .returned (.string (nameOf p n)) ∧ Below w.heap.size w w' := by
  have hp1 : ¬ 9223372036854775807 < p.size + 1 := by omega
  obtain ⟨i0, hi, hz0, hz1, hz2⟩ := info_parts (show (Try.prog.info? 5).map (fun i => (i.zero, i.size, i.bytes)) = some (some (.int .u8 0), 1, 1) by kernel_rfl)
  have hmk : (Instr.makeSlice 86 (.int .i64 6) (.int .i64 6)).run Try.prog w = .ok (.slice (some ⟨w.heap.size, 0, none⟩) 6 6) (w.alloc (.cells #[.int .u8 0, .int .u8 0, .int .u8 0, .int .u8 0, .int .u8 0, .int .u8 0] 5)) := by
    have h := run_make (P := Try.prog) w 86 5 i0 (.int .u8 0) Try.underlying86 hi hz0 .i64 .i64 6 6 (by omega) (by omega) (by rw [hz2]; omega) (by omega)
    have hm : madeCells (Value.int .u8 0).cells (Int.toNat 6 * 1) = #[.int .u8 0, .int .u8 0, .int .u8 0, .int .u8 0, .int .u8 0, .int .u8 0] := by
      apply Array.ext'
      rw [show (Value.int .u8 0).cells = #[.int .u8 0] from rfl, toList_madeCells_one]
      rfl
    rw [hz1, hm] at h
    exact h
  go_enter Try.func23, Try.ntmps23
  go_wp2_with fail
  go_loopw [6, 1] (fun k i wr => ∃ t m : Nat, t ≤ 6 ∧ k = .int .i64 ((t : Int) - 1) ∧ i = .int .i64 (m : Int) ∧ m ≤ n ∧ Hid (m = n / 10 ^ (6 - t)) ∧ Hid (wr.heap[w.heap.size]? = some (.cells (bcells (dgs n t)) 5 (0, 0))) ∧ Hid (Below w.heap.size w wr)) (fun k _ _ => ((intOf k) + 1).toNat)
  case atStart =>
    refine ⟨6, n, Nat.le_refl _, by go_num, rfl, Nat.le_refl _, by show _ = _; simp, ?_, below1 _ _⟩
    show _ = _
    rw [dgs_none, heap_alloc_new]
    rfl
  case round =>
    obtain ⟨t, m, ht, rfl, rfl, hmn, hm, hrow, hbl⟩ := hrel
    by_cases hlt : 0 < t
    · obtain ⟨s, rfl⟩ : ∃ s, t = s + 1 := ⟨t - 1, by omega⟩
      have e1 : ((s + 1 : Nat) : Int) - 1 = (s : Int) := by omega
      rw [e1]
      have c1 : (0 : Int) ≤ (s : Int) := by omega
      have c2 : (s : Int) < 6 := by omega
      have hcell : wr.cell? ⟨w.heap.size, s, none⟩ = some (.int .u8 ((dg n (s + 1) s).toNat : Int)) := by
        rw [cell_of_row _ _ _ _ 5 _ hrow.out]
        obtain rfl | rfl | rfl | rfl | rfl | rfl : s = 0 ∨ s = 1 ∨ s = 2 ∨ s = 3 ∨ s = 4 ∨ s = 5 := by omega
        all_goals rfl
      have hfz := frozen_of_row wr w.heap.size s _ 5 hrow.out
      have hlw := lt_of_cell hcell
      have w1 : IntKind.u8.wrap ((m : Int) % 10) = (m : Int) % 10 := IntWalk.u8_in _ (by omega)
      have w2 : IntKind.u8.wrap (48 + (m : Int) % 10) = 48 + (m : Int) % 10 := IntWalk.u8_in _ (by omega)
      have w3 : IntKind.i64.wrap ((s : Int) - 1) = (s : Int) - 1 := IntWalk.i64_in _ (by omega)
      have r1 : ((m : Int)).tmod 10 = (m : Int) % 10 := IntWalk.rem_in _ _ (by omega)
      have hset : (wr.setCell ⟨w.heap.size, s, none⟩ (.int .u8 (48 + (m : Int) % 10))).heap[w.heap.size]? = some (.cells (bcells (dgs n s)) 5 (0, 0)) := by
        rw [heap_setCell_same wr _ s _ 5 _ hrow.out, ← dg_set n s (by omega)]
        have e : (48 + (m : Int) % 10) = ((dgt n s : Nat) : Int) := by
          have := hm.out
          unfold dgt
          rw [show 6 - (s + 1) = 5 - s by omega] at this
          rw [← this]
          omega
        rw [e]
      have hb2 := nb_set (Nat.le_refl _) hbl.out s (.int .u8 (48 + (m : Int) % 10))
      have HSET := Lib.hid hset
      have HB2 := Lib.hid hb2
      clear hset hb2
      go_wp2_with fail
      case roundEnd =>
        refine ⟨⟨s, m / 10, by omega, rfl, by go_num, Nat.le_trans (Nat.div_le_self _ _) hmn, ?_, HSET.out, HB2.out⟩, ?_⟩
        · show _ = _
          have := hm.out
          rw [show 6 - (s + 1) = 5 - s by omega] at this
          rw [this]
          exact next_div n s (by omega)
        · simp [intOf]
    · obtain rfl : t = 0 := by omega
      have hcv := run_string_of_row (P := Try.prog) wr 86 9 5 w.heap.size 6 6 (dgs n 0) 5 (0, 0) Try.underlying86 Try.underlying5 Try.underlying9 hrow.out rfl
      have hsz : (ByteArray.mk (dgs n 0).toArray).size = 6 := rfl
      have hp2 : ¬ 9223372036854775807 < p.size + 1 + 6 := by omega
      have hps : (p ++ ⟨#[46]⟩).size = p.size + 1 := dotB_size p
      have hlw := (Array.getElem?_eq_some_iff.1 hrow.out).1
      go_wp2_with fail
      go_ret
      exact ⟨rfl, hbl.out⟩
end Go.Proofs.Ytkecjopojnllnaa
