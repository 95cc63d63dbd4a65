/- Numbers of segments, read off names. -/
import Derived.Test.YtkecjopojnllnaaQA
namespace Go.Proofs.Ytkecjopojnllnaa
open Go.RowKit Go.Deep Go.Joins

def digB (c : Int) : Bool := decide (48 ≤ c) && decide (c ≤ 57)
theorem dig_not {c : Int} : digB c = false ↔ c < 48 ∨ 57 < c := by
  unfold digB
  simp only [Bool.and_eq_false_iff, decide_eq_false_iff_not]
  omega
theorem dig_yes {c : Int} : digB c = true ↔ 48 ≤ c ∧ c ≤ 57 := by
  unfold digB
  simp only [Bool.and_eq_true, decide_eq_true_eq]
def valL (L : List UInt8) : Nat := L.foldl (fun n c => n * 10 + (c.toNat - 48)) 0
theorem valL_snoc (L : List UInt8) (c : UInt8) : valL (L ++ [c]) = valL L * 10 + (c.toNat - 48) := by unfold valL; rw [List.foldl_append]; rfl
/-- The letters behind the prefix and its point. -/
def tailB (p nm : ByteArray) : ByteArray := nm.extract (p.size + 1) nm.size
def dotB (p : ByteArray) : ByteArray := p ++ ⟨#[46]⟩
def numB (p nm : ByteArray) : Option Nat := if begB nm (dotB p) = true ∧ (tailB p nm).size = 6 ∧ (tailB p nm).data.toList.all (fun c => digB c.toNat) = true then some (valL (tailB p nm).data.toList) else none
def numV (o : Option Nat) : Value := match o with | some n => .tuple #[.int .i64 (n : Int), .bool true] | none => .tuple #[.int .i64 0, .bool false]
theorem dotB_size (p : ByteArray) : (dotB p).size = p.size + 1 := by unfold dotB; rw [ByteArray.size_append]; rfl

theorem tail_eq (p nm : ByteArray) : nm.extract (p ++ ⟨#[46]⟩).size nm.size = tailB p nm := by
  have := dotB_size p
  unfold dotB at this
  rw [this]; rfl
theorem val_from (L : List UInt8) (h : ∀ c ∈ L, (c.toNat : Int) ≤ 57) : ∀ n, L.foldl (fun n c => n * 10 + (c.toNat - 48)) n + 1 ≤ (n + 1) * 10 ^ L.length := by
  induction L with
  | nil => intro n; simp
  | cons c L ih =>
    intro n
    have h1 := ih (fun d hd => h d (List.mem_cons_of_mem _ hd)) (n * 10 + (c.toNat - 48))
    have h2 := h c (by simp)
    rw [List.foldl_cons, List.length_cons, Nat.pow_succ]
    refine Nat.le_trans h1 ?_
    have h3 : n * 10 + (c.toNat - 48) + 1 ≤ (n + 1) * 10 := by omega
    have h4 := Nat.mul_le_mul_right (10 ^ L.length) h3
    have e : (n + 1) * (10 ^ L.length * 10) = (n + 1) * 10 * 10 ^ L.length := by rw [Nat.mul_comm (10 ^ L.length), Nat.mul_assoc]
    omega
theorem val_lt (L : List UInt8) (h : ∀ c ∈ L, (c.toNat : Int) ≤ 57) : valL L + 1 ≤ 10 ^ L.length := by
  have := val_from L h 0
  unfold valL
  omega

set_option maxRecDepth 100000 in
set_option maxHeartbeats 1000000 in
theorem number_any (p nm : ByteArray) (w : World) (hp : p.size ≤ 1000) :
    Calls Try.prog 49 #[.string p, .string nm] w fun e w' => e = .returned (numV (numB p nm)) ∧ w = w' := by
  have HC := Lib.hid (cut_any nm (dotB p) w)
  unfold dotB at HC
  have hp2 : ¬ 9223372036854775807 < p.size + 1 := by omega
  by_cases hbeg : begB nm (dotB p) = true
  · have hb2 : begB nm (p ++ ⟨#[46]⟩) = true := by simpa [dotB] using hbeg
    rw [hb2, if_pos rfl, tail_eq] at HC
    obtain ⟨t, ht⟩ : ∃ t, tailB p nm = t := ⟨_, rfl⟩
    have hnum : numB p nm = if t.size = 6 ∧ t.data.toList.all (fun c => digB c.toNat) = true then some (valL t.data.toList) else none := by
      unfold numB
      rw [ht]
      by_cases h : t.size = 6 ∧ t.data.toList.all (fun c => digB c.toNat) = true
      · rw [if_pos h, if_pos ⟨hbeg, h⟩]
      · rw [if_neg h, if_neg (fun k => h k.2)]
    rw [ht] at HC
    have HN := Lib.hid hnum
    clear hnum ht hbeg hb2
    by_cases h6 : t.size = 6
    · have h6' : (t.size : Int) = 6 := by omega
      go_enter Try.func49, Try.ntmps49
      go_wp2_with (go_at_call 69; refine HC.out.mono ?_; rintro e w1 ⟨rfl, rfl⟩)
      go_loop [26, 8] (fun i v => ∃ k n : Nat, k ≤ t.size ∧ i = .int .i64 k ∧ v = .int .i64 n ∧ n ≤ 999999 ∧ Hid (n = valL (t.data.toList.take k) ∧ (t.data.toList.take k).all (fun c => digB c.toNat) = true)) (fun i _ => t.size - (intOf i).toNat)
      case atStart => exact ⟨0, 0, Nat.zero_le _, rfl, rfl, by omega, rfl, rfl⟩
      case round =>
        obtain ⟨k, n, hk, rfl, rfl, hn, hv⟩ := hrel
        by_cases hlt : k < t.size
        · have hts := take_snoc t k hlt
          have Hts := Lib.hid hts
          clear hts
          have hbad : digB (t[k].toNat : Int) = false → numB p nm = none := fun hl => by
            rw [HN.out, if_neg]
            rintro ⟨_, h⟩
            rw [List.all_eq_true] at h
            have := h t[k] (mem_at t k hlt)
            rw [hl] at this
            cases this
          have HBAD := Lib.hid hbad
          clear hbad
          by_cases a1 : (t[k].toNat : Int) < 48
          · have hb := HBAD.out (dig_not.2 (.inl a1))
            have HB := Lib.hid hb
            clear hb
            go_wp2_with fail
            go_ret2
            exact ⟨by rw [HB.out]; rfl, rfl⟩
          · by_cases a2 : 57 < (t[k].toNat : Int)
            · have hb := HBAD.out (dig_not.2 (.inr a2))
              have HB := Lib.hid hb
              clear hb
              go_wp2_with fail
              go_ret2
              exact ⟨by rw [HB.out]; rfl, rfl⟩
            · have hval : n * 10 + (t[k].toNat - 48) = valL (t.data.toList.take (k + 1)) ∧ (t.data.toList.take (k + 1)).all (fun c => digB c.toNat) = true := by
                rw [Hts.out, valL_snoc, ← hv.out.1, List.all_append, hv.out.2]
                exact ⟨rfl, by simp [dig_yes]; omega⟩
              have hbound : n * 10 + (t[k].toNat - 48) ≤ 999999 := by
                have h1 := val_lt (t.data.toList.take (k + 1)) (fun c hc => (dig_yes.1 (List.all_eq_true.1 hval.2 c hc)).2)
                have h2 : (t.data.toList.take (k + 1)).length = k + 1 := by rw [List.length_take, len_eq]; omega
                rw [h2, ← hval.1] at h1
                have h3 : 10 ^ (k + 1) ≤ 10 ^ 6 := Nat.pow_le_pow_right (by decide) (by omega)
                omega
              have HVAL := Lib.hid hval
              have w1 : IntKind.i64.wrap ((n : Int) * 10) = (n : Int) * 10 := IntWalk.i64_in _ (by omega)
              have w2 : IntKind.u8.wrap ((t[k].toNat : Int) - 48) = (t[k].toNat : Int) - 48 := IntWalk.u8_in _ (by omega)
              have w3 : IntKind.i64.wrap ((t[k].toNat : Int) - 48) = (t[k].toNat : Int) - 48 := IntWalk.i64_in _ (by omega)
              have w4 : IntKind.i64.wrap ((n : Int) * 10 + ((t[k].toNat : Int) - 48)) = (n : Int) * 10 + ((t[k].toNat : Int) - 48) := IntWalk.i64_in _ (by omega)
              clear hval
              go_wp2_with fail
              go_round
              case rel => exact ⟨k + 1, n * 10 + (t[k].toNat - 48), by omega, by go_num, by go_num, hbound, HVAL.out⟩
              case measure => simp [intOf]; omega
        · have hfin : numB p nm = some n := by
            have h := hv.out
            rw [List.take_of_length_le (by rw [len_eq]; omega)] at h
            rw [HN.out, if_pos ⟨h6, h.2⟩, h.1]
          have HF := Lib.hid hfin
          clear hfin
          go_wp2_with fail
          go_ret2
          exact ⟨by rw [HF.out]; rfl, rfl⟩
    · have h6' : ¬ (t.size : Int) = 6 := by omega
      have h6b : ((t.size : Int) != 6) = true := by simpa using h6'
      have hfin : numB p nm = none := by rw [HN.out, if_neg (fun h => h6 h.1)]
      rw [hfin]
      go_enter Try.func49, Try.ntmps49
      go_wp2_with (go_at_call 69; refine HC.out.mono ?_; rintro e w1 ⟨rfl, rfl⟩)
      go_ret2
      exact ⟨rfl, rfl⟩
  · have hnum : numB p nm = none := by unfold numB; rw [if_neg (fun h => hbeg h.1)]
    rw [hnum]
    have hb2 : begB nm (p ++ ⟨#[46]⟩) = false := by simpa [dotB] using hbeg
    rw [hb2, if_neg (by decide)] at HC
    clear hbeg
    go_enter Try.func49, Try.ntmps49
    go_wp2_with (go_at_call 69; refine HC.out.mono ?_; rintro e w1 ⟨rfl, rfl⟩)
    go_ret2
    exact ⟨rfl, rfl⟩
end Go.Proofs.Ytkecjopojnllnaa
