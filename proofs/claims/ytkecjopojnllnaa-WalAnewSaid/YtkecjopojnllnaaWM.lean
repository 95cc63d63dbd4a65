/- What any beginning of a renewing leaves behind a crash (plain), and the calls of WalAnew. -/
import Derived.Test.YtkecjopojnllnaaWL
namespace Go.Proofs.Ytkecjopojnllnaa
open Go.RowKit Go.Deep Go.Joins

def newN (Os : List (List ByteArray)) : Nat := if Os.length = 0 then 0 else Os.length + 1
theorem newN_far (Os : List (List ByteArray)) : Os.length = 0 ∨ Os.length < newN Os := by unfold newN; split <;> omega
theorem newN_le (Os : List (List ByteArray)) (h : Os.length ≤ 31) : newN Os ≤ 32 := by unfold newN; split <;> omega
theorem new_put {p : ByteArray} {fs : List Fl} {Os : List (List ByteArray)} {s : ByteArray} (hp : prefB p = true) (h : Base p fs Os) (hs : s.size ≤ 131072) :
    ∃ gs, changeF fs (putOp (nameOf p (newN Os)) 0 (frameB s)) = (gs, 0) ∧ Uniq gs ∧ gs.length = fs.length + 1 ∧ ∀ f, f ∈ gs ↔ f ∈ fs ∨ f = lastF p (newN Os) [] [s] := by
  have hn := newN_le Os h.few
  have hfar := newN_far Os
  have hfew := h.few
  refine put_new hp hs (by rw [h.len]; omega) (fun f hf e => ?_) h.uniq
  obtain ⟨i, hi, rfl⟩ := (h.mem f).1 hf
  have := nameOf_inj (by omega) (by omega) (show nameOf p i = _ from e)
  omega
theorem new_one {p : ByteArray} {fs : List Fl} {l : List Rw} {Os : List (List ByteArray)} {s : ByteArray} (h : Base p fs Os) (hs : s.size ≤ 131072) (hu : Uniq (l.map core)) (hm : ∀ f, f ∈ l.map core ↔ f ∈ fs ∨ f = lastF p (newN Os) [] [s]) (ft : List Ft) :
    ∃ R T, Anew p ((crashRows l ft).map core) Os Os.length (newN Os) R T ∧ (R = [] ∨ R = [s]) := by
  have hN := newN_le Os h.few
  have hfar := newN_far Os
  have hfew := h.few
  have hlen : ((crashRows l ft).map core).length = l.length := by unfold crashRows; rw [List.length_map, List.length_mapIdx]
  have hget : ∀ i (hi : i < ((crashRows l ft).map core).length), ((crashRows l ft).map core)[i] = ⟨(l[i]'(by omega)).name, layB (l[i]'(by omega)).safe (survOf (l[i]'(by omega)) ft[i]?), []⟩ := fun i hi => by
    have h1 := crash_core l ft i (by omega)
    rw [List.getElem?_eq_getElem hi] at h1
    exact Option.some.inj h1
  have hu2 : Uniq ((crashRows l ft).map core) := Uniq.of_inj fun i j hi hj e => by
    rw [hget i hi, hget j hj] at e
    exact hu.inj (i := i) (j := j) (by rw [List.length_map]; omega) (by rw [List.length_map]; omega) (by rw [List.getElem_map, List.getElem_map]; exact e)
  obtain ⟨k, hk, hkl⟩ := List.getElem_of_mem ((hm _).2 (.inr rfl))
  rw [List.length_map] at hk
  rw [List.getElem_map] at hkl
  have k1 : l[k].name = nameOf p (newN Os) := congrArg Fl.name hkl
  have k2 : l[k].safe = ofL [] := congrArg Fl.safe hkl
  have k3 : l[k].opens = putsF 0 [s] := congrArg Fl.opens hkl
  have hbeg : ∃ B, layB l[k].safe (survOf l[k] ft[k]?) = ofL B ∧ Begun [] [s] B := by
    rw [k2]
    cases hft : ft[k]? with
    | none => exact ⟨[], rfl, begun_none _ _⟩
    | some f =>
      show ∃ B, layB (ofL []) (surv f.whole f.torn f.nb 0 l[k].opens) = ofL B ∧ _
      rw [k3, layB_ofL]
      exact ⟨_, rfl, crash_begun _ _ _ [s] 0 [] (by rw [catL_one, frL_length]; show 0 + _ ≤ _; omega)⟩
  obtain ⟨B, hB, j, T, hBT, hj⟩ := hbeg
  rw [List.nil_append] at hBT
  refine ⟨[s].take j, T, ⟨hu2, fun m b => ?_, ?_, h.short, fun x hx => ?_, Nat.le_refl _, hfar, h.full⟩, ?_⟩
  · constructor
    · intro hmm
      obtain ⟨i, hi, m1, m2, m3⟩ := hmm.at
      rw [hget i hi] at m1 m3
      have hil : i < l.length := by omega
      have m3' : layB l[i].safe (survOf l[i] ft[i]?) = b := m3
      rcases (hm (core l[i])).1 (List.mem_map_of_mem (List.getElem_mem hil)) with e | e
      · obtain ⟨t, ht, e⟩ := (h.mem _).1 e
        have e1 : l[i].name = nameOf p t := congrArg Fl.name e
        have e2 : l[i].safe = ofL (catL Os[t]) := congrArg Fl.safe e
        have e3 : l[i].opens = [] := congrArg Fl.opens e
        have hmt : m = t := nameOf_inj m2 (by omega) (m1.symm.trans e1)
        subst hmt
        refine .inl ⟨ht, ht, ?_⟩
        rw [← m3', e2]
        cases ft[i]? with
        | none => rfl
        | some f => show layB _ (surv f.whole f.torn f.nb 0 l[i].opens) = _; rw [e3]; rfl
      · have e1 : l[i].name = nameOf p (newN Os) := congrArg Fl.name e
        have hmt : m = newN Os := nameOf_inj m2 (by omega) (m1.symm.trans e1)
        have hik : i = k := hu.inj (i := i) (j := k) (by rw [List.length_map]; exact hil) (by rw [List.length_map]; exact hk) (by rw [List.getElem_map, List.getElem_map]; exact e1.trans k1.symm)
        subst hik
        exact .inr ⟨hmt, by rw [← m3', hB, hBT]⟩
    · rintro (⟨hmm, _, rfl⟩ | ⟨rfl, rfl⟩)
      · obtain ⟨i, hi, e⟩ := List.getElem_of_mem ((hm _).2 (.inl ((h.mem _).2 ⟨m, hmm, rfl⟩)))
        rw [List.length_map] at hi
        rw [List.getElem_map] at e
        have e1 : l[i].name = nameOf p m := congrArg Fl.name e
        have e2 : l[i].safe = ofL (catL Os[m]) := congrArg Fl.safe e
        have e3 : l[i].opens = [] := congrArg Fl.opens e
        refine Has.of (k := i) (by omega) (by rw [hget i (by omega)]; exact e1) (by omega) ?_
        rw [hget i (by omega)]
        show layB l[i].safe (survOf l[i] ft[i]?) = _
        rw [e2]
        cases ft[i]? with
        | none => rfl
        | some f => show layB _ (surv f.whole f.torn f.nb 0 l[i].opens) = _; rw [e3]; rfl
      · refine Has.of (k := k) (by omega) (by rw [hget k (by omega)]; exact k1) (by omega) ?_
        rw [hget k (by omega)]
        show layB l[k].safe (survOf l[k] ft[k]?) = _
        rw [hB, hBT]
  · rcases hj with ⟨_, h1⟩ | ⟨h1, h2⟩
    · exact .inl h1
    · refine .inr ⟨s, hs, ?_⟩
      have hj0 : j = 0 := by simpa using h1
      subst hj0
      exact h2
  · have := List.mem_of_mem_take hx
    rw [List.mem_singleton] at this
    rw [this]; exact hs
  · cases j with
    | zero => exact .inl rfl
    | succ j => exact .inr (by rw [List.take_of_length_le (by simp)])
theorem new_safe {p : ByteArray} {fs fs1 : List Fl} {Os : List (List ByteArray)} {s : ByteArray} (hp : prefB p = true) (hs : s.size ≤ 131072) (hu : Uniq fs1) (hm : ∀ f, f ∈ fs1 ↔ f ∈ fs ∨ f = lastF p (newN Os) [] [s]) (hne : ∀ f ∈ fs, f.name ≠ nameOf p (newN Os)) :
    ∃ gs, changeF fs1 (syncOp (nameOf p (newN Os))) = (gs, 0) ∧ Uniq gs ∧ ∀ f, f ∈ gs ↔ f ∈ fs ∨ f = fullF p (newN Os) [s] := by
  obtain ⟨k, hk, hkl⟩ := List.getElem_of_mem ((hm _).2 (.inr rfl))
  have hal : allF (lastF p (newN Os) [] [s]) = ofL (catL [s]) := by
    unfold allF lastF
    dsimp only
    rw [layB_ofL, puts_end _ _ (by rw [catL_one, frL_length]; show 0 + _ ≤ _; omega)]
    rfl
  refine ⟨_, syncOp_change hp hu hk (by rw [hkl]; rfl), uniq_modify hu _ (fun _ => rfl), fun f => ?_⟩
  rw [mem_modify_iff hu hk, hkl, hm]
  have hg : (⟨(lastF p (newN Os) [] [s]).name, allF (lastF p (newN Os) [] [s]), []⟩ : Fl) = fullF p (newN Os) [s] := by rw [hal]; rfl
  rw [hg]
  constructor
  · rintro (h1 | ⟨h1 | h1, h2⟩)
    · exact .inr h1
    · exact .inl h1
    · rw [h1] at h2; exact absurd rfl h2
  · rintro (h1 | h1)
    · exact .inr ⟨.inl h1, hne f h1⟩
    · exact .inl h1
theorem take_drops (p : ByteArray) (n j : Nat) : (dropNs p (List.range n)).take j = ((List.range n).drop (n - j)).reverse.map fun m => dropOp (nameOf p m) := by
  unfold dropNs
  rw [← List.map_take, List.take_reverse, List.length_range]
/-- What Open tells behind any beginning of a renewing and a crash. -/
theorem renew_k {p : ByteArray} {fs : List Fl} {Os : List (List ByteArray)} {s : ByteArray} (hp : prefB p = true) (h : Base p fs Os) (hs : s.size ≤ 131072) (k : Nat) (hk0 : 0 < k) (hk : k ≤ 2 + Os.length) :
    ∃ gs, Exec fs ((firstOps p s (newN Os) ++ dropNs p (List.range Os.length)).take k) gs ∧ ∀ l : List Rw, l.map core = gs → ∀ (ft : List Ft) (l' : List Rw), l'.map core = (crashRows l ft).map core → ∀ r pl, OpenIs p l' r pl →
      (k = 1 → r = [s] ∨ r = Os.flatten) ∧ (2 ≤ k → r = [s]) := by
  have hN := newN_le Os h.few
  have hfar := newN_far Os
  have hfew := h.few
  obtain ⟨fs1, a1, u1, _, m1⟩ := new_put hp h hs
  rcases Nat.lt_or_ge 1 k with h1 | h1
  · have hne : ∀ f ∈ fs, f.name ≠ nameOf p (newN Os) := fun f hf e => by
      obtain ⟨i, hi, rfl⟩ := (h.mem f).1 hf
      have := nameOf_inj (by omega) (by omega) (show nameOf p i = _ from e)
      omega
    obtain ⟨fs2, a2, u2, m2⟩ := new_safe hp hs u1 m1 hne
    have hplain : ∀ f ∈ fs2, f.opens = [] := fun f hf => by
      rcases (m2 f).1 hf with h2 | h2
      · exact (h.plain f h2).1
      · rw [h2]; rfl
    have has2 : ∀ m b, Has p fs2 m b ↔ (∃ h : m < Os.length, b = ofL (catL Os[m])) ∨ (m = newN Os ∧ b = ofL (catL [s])) := fun m b => by
      constructor
      · rintro ⟨f, hf, b1, b2⟩
        rcases (m2 f).1 hf with h2 | h2
        · exact .inl ((h.has m b).1 ⟨f, h2, b1, b2⟩)
        · rw [h2] at b1 b2
          exact .inr ⟨nameOf_inj (numB_name.1 b1).2 (by omega) (numB_name.1 b1).1.symm, b2.symm⟩
      · rintro (h2 | ⟨rfl, rfl⟩)
        · obtain ⟨f, hf, b1⟩ := (h.has m b).2 h2
          exact ⟨f, (m2 f).2 (.inl hf), b1⟩
        · exact ⟨_, (m2 _).2 (.inr rfl), numB_name.2 ⟨rfl, by omega⟩, rfl⟩
    obtain ⟨j, hj⟩ : ∃ j, k = 2 + j := ⟨k - 2, by omega⟩
    have hmemD : ∀ m, m ∈ (List.range Os.length).drop (Os.length - j) ↔ Os.length - j ≤ m ∧ m < Os.length := fun m => by
      rw [List.mem_iff_getElem]
      constructor
      · rintro ⟨i, hi, e⟩
        rw [List.length_drop, List.length_range] at hi
        rw [List.getElem_drop, List.getElem_range] at e
        omega
      · rintro ⟨e1, e2⟩
        exact ⟨m - (Os.length - j), by rw [List.length_drop, List.length_range]; omega, by rw [List.getElem_drop, List.getElem_range]; omega⟩
    obtain ⟨gs, e1, u3, c3⟩ := exec_drops hp ((List.range Os.length).drop (Os.length - j)) u2 (fun n hn => ⟨_, (has2 n _).2 (.inl ⟨((hmemD n).1 hn).2, rfl⟩)⟩) (List.nodup_range.sublist (List.drop_sublist _ _))
    have hsub := exec_sub _ (fun o ho => by obtain ⟨m, _, rfl⟩ := List.mem_map.1 ho; rfl) e1
    refine ⟨gs, ?_, fun l hl ft l' hl' r pl ho => ⟨fun e => by omega, fun _ => ?_⟩⟩
    · have ht : (firstOps p s (newN Os) ++ dropNs p (List.range Os.length)).take k = [putOp (nameOf p (newN Os)) 0 (frameB s)] ++ ([syncOp (nameOf p (newN Os))] ++ ((List.range Os.length).drop (Os.length - j)).reverse.map fun m => dropOp (nameOf p m)) := by
        rw [hj, show 2 + j = (firstOps p s (newN Os)).length + j from rfl, List.take_length_add_append, take_drops p Os.length j]
        rfl
      rw [ht]
      exact (Exec.one a1).append ((Exec.one a2).append e1)
    · rw [crash_same (by rw [hl]; exact fun f hf => hplain f (hsub f hf)), hl] at hl'
      have hA : Anew p (l'.map core) Os (Os.length - j) (newN Os) [s] [] := by
        rw [hl']
        refine ⟨u3, fun m b => ?_, .inl rfl, h.short, (fun x hx => by rw [List.mem_singleton] at hx; rw [hx]; exact hs), by omega, by omega, h.full⟩
        rw [c3, has2, hmemD, List.append_nil]
        constructor
        · rintro ⟨b1, ⟨b2, b3⟩ | ⟨b2, b3⟩⟩
          · exact .inl ⟨b2, by omega, b3⟩
          · exact .inr ⟨b2, b3⟩
        · rintro (⟨b1, b2, b3⟩ | ⟨b2, b3⟩)
          · exact ⟨by omega, .inl ⟨b1, b3⟩⟩
          · exact ⟨by omega, .inr ⟨b2, b3⟩⟩
      exact (hA.told ho).1 (by simp)
  · have hk1 : k = 1 := by omega
    subst hk1
    refine ⟨fs1, Exec.one a1, fun l hl ft l' hl' r pl ho => ⟨fun _ => ?_, fun e => by omega⟩⟩
    obtain ⟨R, T, hA, hR⟩ := new_one (l := l) h hs (by rw [hl]; exact u1) (by rw [hl]; exact m1) ft
    rw [← hl'] at hA
    rcases hR with rfl | rfl
    · exact .inr ((hA.told ho).2 rfl rfl)
    · exact .inl ((hA.told ho).1 (by simp))
end Go.Proofs.Ytkecjopojnllnaa
