/- Names and numbers are one another's. -/
import Derived.Test.YtkecjopojnllnaaQI
namespace Go.Proofs.Ytkecjopojnllnaa
open Go.RowKit Go.Deep Go.Joins

theorem nameOf_list (p : ByteArray) (n : Nat) : (nameOf p n).data.toList = p.data.toList ++ 46 :: dgs n 0 := by
  unfold nameOf
  simp
theorem dg0 (n j : Nat) : (dg n 0 j).toNat = dgt n j := by
  have := dgt_lt n j
  unfold dg
  rw [if_pos (Nat.zero_le _), UInt8.toNat_ofNat']
  omega
theorem dig_dg (n j : Nat) : digB ((dg n 0 j).toNat : Int) = true := by
  have := dgt_lt n j
  rw [dig_yes, dg0]
  omega
theorem val6 (a b c d e f : UInt8) : valL [a, b, c, d, e, f] = (((((a.toNat - 48) * 10 + (b.toNat - 48)) * 10 + (c.toNat - 48)) * 10 + (d.toNat - 48)) * 10 + (e.toNat - 48)) * 10 + (f.toNat - 48) := by
  unfold valL
  simp
theorem val_dgs (n : Nat) (h : n ≤ 999999) : valL (dgs n 0) = n := by
  unfold dgs
  rw [val6, dg0, dg0, dg0, dg0, dg0, dg0]
  unfold dgt
  show (((((48 + n / 100000 % 10 - 48) * 10 + (48 + n / 10000 % 10 - 48)) * 10 + (48 + n / 1000 % 10 - 48)) * 10 + (48 + n / 100 % 10 - 48)) * 10 + (48 + n / 10 % 10 - 48)) * 10 + (48 + n / 1 % 10 - 48) = n
  omega
theorem dgs_val (T : List UInt8) (h6 : T.length = 6) (hT : T.all (fun c => digB c.toNat) = true) : dgs (valL T) 0 = T ∧ valL T ≤ 999999 := by
  match T, h6 with
  | [a, b, c, d, e, f], _ =>
    simp only [List.all_cons, List.all_nil, Bool.and_true, Bool.and_eq_true, dig_yes] at hT
    obtain ⟨ha, hb, hc, hd, he, hf⟩ := hT
    have hone : ∀ (j : Nat) (x : UInt8), dgt (valL [a, b, c, d, e, f]) j = x.toNat → dg (valL [a, b, c, d, e, f]) 0 j = x := by
      intro j x h
      rw [← UInt8.toNat_inj, dg0, h]
    rw [val6] at hone ⊢
    constructor
    · unfold dgs
      rw [hone 0 a ?_, hone 1 b ?_, hone 2 c ?_, hone 3 d ?_, hone 4 e ?_, hone 5 f ?_]
      all_goals unfold dgt
      · show 48 + _ / 1 % 10 = _
        omega
      · show 48 + _ / 10 % 10 = _
        omega
      · show 48 + _ / 100 % 10 = _
        omega
      · show 48 + _ / 1000 % 10 = _
        omega
      · show 48 + _ / 10000 % 10 = _
        omega
      · show 48 + _ / 100000 % 10 = _
        omega
    · omega
theorem numB_name {p nm : ByteArray} {n : Nat} : numB p nm = some n ↔ nm = nameOf p n ∧ n ≤ 999999 := by
  have hl := len_eq nm
  have hlp := len_eq p
  rw [numB_iff]
  constructor
  · rintro ⟨h, rfl⟩
    have h6 : (nm.data.toList.drop (p.size + 1)).length = 6 := by rw [List.length_drop, hl, h.size]; omega
    obtain ⟨h1, h2⟩ := dgs_val _ h6 h.digs
    refine ⟨ba_inj ?_, h2⟩
    rw [nameOf_list, h1, ← h.pref]
    have e : nm.data.toList[p.size]? = some (nm.data.toList[p.size]'(by rw [hl, h.size]; omega)) := List.getElem?_eq_getElem _
    have e2 : nm.data.toList[p.size]'(by rw [hl, h.size]; omega) = 46 := by
      have := h.point
      rw [e] at this
      exact Option.some.inj this
    rw [← e2, ← List.drop_eq_getElem_cons, List.take_append_drop]
  · rintro ⟨rfl, hn⟩
    have hL := nameOf_list p n
    have hd : (nameOf p n).data.toList.drop (p.size + 1) = dgs n 0 := by
      rw [hL, ← hlp, ← List.drop_drop, List.drop_left]
      rfl
    refine ⟨⟨?_, ?_, ?_, ?_⟩, ?_⟩
    · rw [← len_eq, hL, List.length_append, hlp]
      rfl
    · rw [hL, ← hlp, List.take_left]
    · rw [hL, ← hlp, List.getElem?_append_right (Nat.le_refl _), Nat.sub_self]
      rfl
    · rw [hd]
      unfold dgs
      simp only [List.all_cons, List.all_nil, dig_dg, Bool.and_true]
    · rw [hd, val_dgs n hn]
theorem same_num {p : ByteArray} {n : Nat} (hn : n ≤ 999999) (r : Rw) : (numB p r.name == some n) = sameName (nameOf p n) r := by
  rw [Bool.eq_iff_iff, beq_iff_eq, numB_name]
  simp only [sameName, sameN, hn, and_true, beq_iff_eq, ByteArray.toList_eq]
  exact ⟨fun h => by rw [h], fun h => ba_inj h⟩
/-- The first file of a number is the one that its name finds. -/
theorem find_name {p : ByteArray} {l : List Rw} {n : Nat} {r : Rw} (h : l.find? (fun r => numB p r.name == some n) = some r) : ∃ (k : Nat) (hk : k < l.length), idx (sameName (nameOf p n)) l = k ∧ l[k] = r ∧ r.name = nameOf p n ∧ n ≤ 999999 := by
  have h0 : numB p r.name = some n := by simpa using List.find?_some h
  obtain ⟨h1, hn⟩ := numB_name.1 h0
  obtain ⟨h2, k, hk, rfl, h3⟩ := List.find?_eq_some_iff_getElem.1 h
  refine ⟨k, hk, idx_some hk ?_ ?_, rfl, h1, hn⟩
  · intro j hj hjk
    have := h3 j hjk
    rw [same_num hn] at this
    simpa using this
  · rw [← same_num hn]
    exact h2
theorem hasN_le {p : ByteArray} {l : List Rw} {n : Nat} (h : hasN p l n) : n ≤ 999999 := by
  obtain ⟨r, _, h⟩ := h
  exact (numB_name.1 h).2
theorem nameOf_inj {p : ByteArray} {n m : Nat} (hn : n ≤ 999999) (hm : m ≤ 999999) (h : nameOf p n = nameOf p m) : n = m := by
  have h1 := (numB_name (p := p) (nm := nameOf p n) (n := n)).2 ⟨rfl, hn⟩
  have h2 := (numB_name (p := p) (nm := nameOf p m) (n := m)).2 ⟨rfl, hm⟩
  rw [h, h2] at h1
  exact (Option.some.inj h1).symm
end Go.Proofs.Ytkecjopojnllnaa
