/- Numbers of segments, as the reference reads them. -/
import Derived.Test.YtkecjopojnllnaaQB
namespace Go.Proofs.Ytkecjopojnllnaa
open Go.RowKit Go.Deep Go.Joins

theorem ext_list (b : ByteArray) (s e : Nat) : (b.extract s e).data.toList = (b.data.toList.take e).drop s := by
  rw [ByteArray.data_extract, Array.toList_extract]
  simp [List.extract, List.drop_take]
theorem ba_inj {a b : ByteArray} (h : a.data.toList = b.data.toList) : a = b := ByteArray.ext (Array.toList_inj.1 h)
theorem begB_iff {s p : ByteArray} : begB s p = true ↔ s.data.toList.take p.size = p.data.toList := by
  unfold begB
  rw [Bool.and_eq_true, decide_eq_true_eq, beq_iff_eq, ByteArray.toList_eq, ByteArray.toList_eq, ext_list, List.drop_zero]
  refine ⟨fun h => h.2, fun h => ⟨?_, h⟩⟩
  have := congrArg List.length h
  rw [List.length_take, len_eq, len_eq] at this
  omega
theorem dotB_list (p : ByteArray) : (dotB p).data.toList = p.data.toList ++ [46] := by unfold dotB; simp
theorem tailB_list (p nm : ByteArray) : (tailB p nm).data.toList = nm.data.toList.drop (p.size + 1) := by
  unfold tailB
  rw [ext_list, List.take_of_length_le (by rw [len_eq]; exact Nat.le_refl _)]
/-- A segment's name, taken apart. -/
structure NumAt (p nm : ByteArray) : Prop where
  size : nm.size = p.size + 7
  pref : nm.data.toList.take p.size = p.data.toList
  point : nm.data.toList[p.size]? = some 46
  digs : (nm.data.toList.drop (p.size + 1)).all (fun c => digB c.toNat) = true
theorem numB_iff {p nm : ByteArray} {n : Nat} : numB p nm = some n ↔ NumAt p nm ∧ n = valL (nm.data.toList.drop (p.size + 1)) := by
  have hl := len_eq nm
  have hlp := len_eq p
  have ht : (tailB p nm).size = nm.size - (p.size + 1) := by rw [← len_eq, tailB_list, List.length_drop, hl]
  have hbeg : begB nm (dotB p) = true ↔ nm.data.toList.take p.size = p.data.toList ∧ nm.data.toList[p.size]? = some 46 := by
    rw [begB_iff, dotB_size, dotB_list, List.take_add_one]
    constructor
    · intro h
      by_cases hlt : p.size < nm.size
      · have e : nm.data.toList[p.size]? = some (nm.data.toList[p.size]'(by omega)) := List.getElem?_eq_getElem _
        rw [e] at h ⊢
        have h2 := List.append_inj h (by rw [List.length_take]; omega)
        exact ⟨h2.1, congrArg some (by simpa using h2.2)⟩
      · rw [List.getElem?_eq_none (by omega)] at h
        have := congrArg List.length h
        simp only [List.length_append, List.length_take, Option.toList_none, List.length_nil, List.length_singleton] at this
        omega
    · rintro ⟨h1, h2⟩
      rw [h1, h2]; rfl
  unfold numB
  rw [tailB_list]
  constructor
  · intro h
    split at h
    · rename_i hc
      obtain ⟨h1, h2, h3⟩ := hc
      obtain ⟨k1, k2⟩ := hbeg.1 h1
      exact ⟨⟨by omega, k1, k2, h3⟩, (Option.some.inj h).symm⟩
    · cases h
  · rintro ⟨h, rfl⟩
    rw [if_pos ⟨hbeg.2 ⟨h.pref, h.point⟩, by rw [ht, h.size]; omega, h.digs⟩]
def numI (o : Option Nat) : Int := match o with | some n => n | none => -1
theorem numB_none {p nm : ByteArray} (h : ¬ NumAt p nm) : numB p nm = none := by
  cases hn : numB p nm with
  | none => rfl
  | some n => exact absurd (numB_iff.1 hn).1 h

set_option maxRecDepth 100000 in
set_option maxHeartbeats 1000000 in
theorem number2_any (p nm : ByteArray) (w : World) (hp : p.size ≤ 1000) :
    Calls Try.prog 58 #[.string nm, .string p] w fun e w' => e = .returned (.int .i64 (numI (numB p nm))) ∧ w = w' := by
  have w1 : IntKind.i64.wrap ((p.size : Int) + 7) = (p.size : Int) + 7 := IntWalk.i64_in _ (by omega)
  have w2 : IntKind.i64.wrap ((p.size : Int) + 1) = (p.size : Int) + 1 := IntWalk.i64_in _ (by omega)
  by_cases hsz : nm.size = p.size + 7
  · have s1 : ((nm.size : Int) != (p.size : Int) + 7) = false := by rw [bne_eq_false_iff_eq]; omega
    have s2 : (p.size : Int) ≤ (nm.size : Int) := by omega
    have s3 : (p.size : Int) < (nm.size : Int) := by omega
    have hlt0 : p.size < nm.size := by omega
    by_cases hpre : (nm.extract 0 p.size).toList = p.toList
    · have p1 : ((nm.extract 0 p.size).toList != p.toList) = false := by rw [bne_eq_false_iff_eq]; exact hpre
      have p2 : ((nm.extract 0 p.size).toList == p.toList) = true := by rw [beq_iff_eq]; exact hpre
      have HPRE := Lib.hid hpre
      have HSZ := Lib.hid hsz
      clear hpre hsz
      by_cases hdot : (nm[p.size].toNat : Int) = 46
      · have d1 : ((nm[p.size].toNat : Int) != 46) = false := by rw [hdot]; rfl
        have d2 : nm[p.size].toNat = 46 := by omega
        have hbase : NumAt p nm ↔ (nm.data.toList.drop (p.size + 1)).all (fun c => digB c.toNat) = true := by
          refine ⟨fun h => h.digs, fun h => ⟨HSZ.out, ?_, ?_, h⟩⟩
          · have := HPRE.out
            rw [ByteArray.toList_eq, ByteArray.toList_eq, ext_list, List.drop_zero] at this
            exact this
          · rw [List.getElem?_eq_getElem (by rw [len_eq]; omega)]
            have : nm[p.size] = 46 := UInt8.toNat_inj.1 d2
            exact congrArg some this
        obtain ⟨t, ht⟩ : ∃ t, nm.data.toList.drop (p.size + 1) = t := ⟨_, rfl⟩
        have htl : t.length = 6 := by rw [← ht, List.length_drop, len_eq, HSZ.out]; omega
        have hsn : ∀ k (h : k < 6), t.take (k + 1) = t.take k ++ [nm[p.size + 1 + k]'(by have := HSZ.out; omega)] := fun k h => by
          rw [List.take_succ_eq_append_getElem (by omega)]
          congr 2
          subst ht
          rw [List.getElem_drop]
          rfl
        rw [ht] at hbase
        have HB := Lib.hid hbase
        have HT := Lib.hid ht
        have HTL := Lib.hid htl
        have HSN := Lib.hid hsn
        clear hbase ht htl hsn
        go_enter Try.func58, Try.ntmps58
        go_wp2_with fail
        go_loop [6, 5] (fun i v => ∃ k n : Nat, k ≤ 6 ∧ i = .int .i64 ((p.size + 1 + k : Nat) : Int) ∧ v = .int .i64 n ∧ n ≤ 999999 ∧ Hid (n = valL (t.take k) ∧ (t.take k).all (fun c => digB c.toNat) = true)) (fun i _ => nm.size - (intOf i).toNat)
        case atStart => exact ⟨0, 0, Nat.zero_le _, by go_num, rfl, by omega, rfl, rfl⟩
        case round =>
          obtain ⟨k, n, hk, rfl, rfl, hn, hv⟩ := hrel
          obtain ⟨j, hj⟩ : ∃ j, p.size + 1 + k = j := ⟨_, rfl⟩
          rw [hj]
          by_cases hlt : k < 6
          · have hjn : j < nm.size := by have := HSZ.out; omega
            have hjn2 : (j : Int) < (nm.size : Int) := by omega
            have hts : t.take (k + 1) = t.take k ++ [nm[j]] := by
              subst hj
              exact HSN.out k hlt
            have Hts := Lib.hid hts
            have HJ := Lib.hid hj
            clear hts hj
            have hbad : digB (nm[j].toNat : Int) = false → numI (numB p nm) = -1 := fun hl => by
              rw [numB_none]
              · rfl
              intro h
              have h2 := HB.out.1 h
              rw [List.all_eq_true] at h2
              have h3 : nm[j] ∈ t := List.mem_of_mem_take (i := k + 1) (by rw [Hts.out]; simp)
              have := h2 nm[j] h3
              rw [hl] at this
              cases this
            have HBAD := Lib.hid hbad
            clear hbad
            by_cases a1 : (nm[j].toNat : Int) < 48
            · have hb := HBAD.out (dig_not.2 (.inl a1))
              have HBB := Lib.hid hb
              clear hb
              go_wp2_with fail
              go_ret
              exact ⟨by rw [HBB.out]; rfl, rfl⟩
            · by_cases a2 : 57 < (nm[j].toNat : Int)
              · have hb := HBAD.out (dig_not.2 (.inr a2))
                have HBB := Lib.hid hb
                clear hb
                go_wp2_with fail
                go_ret
                exact ⟨by rw [HBB.out]; rfl, rfl⟩
              · have hval : n * 10 + (nm[j].toNat - 48) = valL (t.take (k + 1)) ∧ (t.take (k + 1)).all (fun c => digB c.toNat) = true := by
                  rw [Hts.out, valL_snoc, ← hv.out.1, List.all_append, hv.out.2]
                  exact ⟨rfl, by simp [dig_yes]; omega⟩
                have hbound : n * 10 + (nm[j].toNat - 48) ≤ 999999 := by
                  have h1 := val_lt (t.take (k + 1)) (fun c hc => (dig_yes.1 (List.all_eq_true.1 hval.2 c hc)).2)
                  have h2 : (t.take (k + 1)).length = k + 1 := by rw [List.length_take, HTL.out]; omega
                  rw [h2, ← hval.1] at h1
                  have h3 : 10 ^ (k + 1) ≤ 10 ^ 6 := Nat.pow_le_pow_right (by decide) (by omega)
                  omega
                have HVAL := Lib.hid hval
                have w3 : IntKind.i64.wrap ((n : Int) * 10) = (n : Int) * 10 := IntWalk.i64_in _ (by omega)
                have w4 : IntKind.u8.wrap ((nm[j].toNat : Int) - 48) = (nm[j].toNat : Int) - 48 := IntWalk.u8_in _ (by omega)
                have w5 : IntKind.i64.wrap ((nm[j].toNat : Int) - 48) = (nm[j].toNat : Int) - 48 := IntWalk.i64_in _ (by omega)
                have w6 : IntKind.i64.wrap ((n : Int) * 10 + ((nm[j].toNat : Int) - 48)) = (n : Int) * 10 + ((nm[j].toNat : Int) - 48) := IntWalk.i64_in _ (by omega)
                have w7 : IntKind.i64.wrap ((j : Int) + 1) = (j : Int) + 1 := IntWalk.i64_in _ (by have := HSZ.out; omega)
                clear hval
                go_wp2_with fail
                go_round
                case rel => exact ⟨k + 1, n * 10 + (nm[j].toNat - 48), by omega, by have := HJ.out; go_num, by go_num, hbound, HVAL.out⟩
                case measure => simp [intOf]; omega
          · have hfin : numI (numB p nm) = n := by
              have h := hv.out
              rw [List.take_of_length_le (by rw [HTL.out]; omega)] at h
              have h2 : numB p nm = some n := numB_iff.2 ⟨HB.out.2 h.2, by rw [HT.out]; exact h.1⟩
              rw [h2]; rfl
            have HF := Lib.hid hfin
            have hjn : ¬ (j : Int) < (nm.size : Int) := by have := HSZ.out; omega
            clear hfin hj
            go_wp2_with fail
            go_ret
            exact ⟨by rw [HF.out]; rfl, rfl⟩
      · have d1 : ((nm[p.size].toNat : Int) != 46) = true := by simpa using hdot
        have hfin : numI (numB p nm) = -1 := by
          rw [numB_none]
          · rfl
          intro h
          have h2 := h.point
          rw [List.getElem?_eq_getElem (by rw [len_eq]; omega)] at h2
          have h3 : nm[p.size] = 46 := Option.some.inj h2
          rw [h3] at hdot
          exact hdot rfl
        have HF := Lib.hid hfin
        clear hfin
        go_enter Try.func58, Try.ntmps58
        go_wp2_with fail
        go_ret
        exact ⟨by rw [HF.out]; rfl, rfl⟩
    · have p1 : ((nm.extract 0 p.size).toList != p.toList) = true := by simpa using hpre
      have p2 : ((nm.extract 0 p.size).toList == p.toList) = false := by simpa using hpre
      have hfin : numI (numB p nm) = -1 := by
        rw [numB_none]
        · rfl
        intro h
        refine hpre ?_
        rw [ByteArray.toList_eq, ByteArray.toList_eq, ext_list, List.drop_zero]
        exact h.pref
      have HF := Lib.hid hfin
      clear hfin hpre
      go_enter Try.func58, Try.ntmps58
      go_wp2_with fail
      go_ret
      exact ⟨by rw [HF.out]; rfl, rfl⟩
  · have s1 : ((nm.size : Int) != (p.size : Int) + 7) = true := by simp; omega
    have hfin : numI (numB p nm) = -1 := by
      rw [numB_none]
      · rfl
      exact fun h => hsz h.size
    have HF := Lib.hid hfin
    clear hfin
    go_enter Try.func58, Try.ntmps58
    go_wp2_with fail
    go_ret
    exact ⟨by rw [HF.out]; rfl, rfl⟩
end Go.Proofs.Ytkecjopojnllnaa
