/- The reference's one: any operation. -/
import Derived.Test.YtfpdfhncifcghaaTi
namespace Go.Proofs.Ytfpdfhncifcghaa
open Go.RowKit Go.Deep Go.Joins

theorem one_put (l : List Rw) (v : Value) (B : Nat) (o : DOp) (w : World) (hown : OwnR w B v l) (hB : B ≤ w.heap.size) (hk : o.kind = 1) (hnm : nameB o.name = true) (hn : o.name.size ≤ 1099511627776) (hm : l.length ≤ 1099511627776) (hol : ∀ r ∈ l, r.opens.length + 1 ≤ 1099511627776) :
    Calls Try.prog 24 #[.agg #[v], .agg #[.int .i64 o.kind, .string o.name, .int .i64 o.pos, .string o.bytes]] w (One w B v (putF (l.map core) o).1 (putF (l.map core) o).2) := by
  rw [hk]
  unfold putF
  obtain ⟨kk, hkk⟩ : ∃ kk, idx (sameName o.name) l = kk := ⟨_, rfl⟩
  by_cases h1 : o.pos < 0
  · rw [if_pos h1]
    exact one_putbad l v B o.name o.pos o.bytes w hown hnm hn hm kk hkk 1 (.inl ⟨h1, rfl⟩)
  rw [if_neg h1]
  by_cases h2 : 1048576 < o.pos ∨ (o.bytes.size : Int) > 1048576 - o.pos
  · rw [if_pos h2]
    refine one_putbad l v B o.name o.pos o.bytes w hown hnm hn hm kk hkk 2 ?_
    by_cases h3 : 1048576 < o.pos
    · exact .inr (.inl ⟨by omega, h3, rfl⟩)
    · exact .inr (.inr ⟨by omega, by omega, by omega, rfl⟩)
  rw [if_neg h2, ← idx_core]
  rcases idx_cases (sameName o.name) l with ⟨_, hi⟩ | ⟨k, hkl, hi, _⟩
  · rw [if_pos (by omega), List.length_map]
    by_cases h3 : 32 ≤ l.length
    · rw [if_pos h3]
      exact one_putfull l v B o.name o.pos o.bytes w hown hnm hn hm hi (by omega) (by omega) (by omega) h3
    · rw [if_neg h3]
      exact one_putnew l v B o.name o.pos o.bytes w hown hnm hn hm hB hi (by omega) (by omega) (by omega) (by omega)
  · rw [if_neg (by omega), hi]
    have hk2 : ((k : Int)).toNat = k := by omega
    rw [hk2]
    have e : (l.map core).modify k (fun f => ⟨f.name, f.safe, f.opens ++ [⟨o.pos, o.bytes⟩]⟩) = (l.map core).set k ⟨l[k].name, l[k].safe, l[k].opens ++ [⟨o.pos, o.bytes⟩]⟩ := by
      apply List.ext_getElem?
      intro j
      rw [List.getElem?_modify, List.getElem?_set]
      by_cases e : k = j
      · subst e
        simp [hkl, core]
      · simp [e]
    rw [e]
    exact one_putthere l v B o.name o.pos o.bytes w hown hnm hn hm k hkl hi (by omega) (by omega) (by omega) (hol _ (List.getElem_mem _))

theorem one_any (l : List Rw) (v : Value) (B : Nat) (o : DOp) (w : World) (hown : OwnR w B v l) (hB : B ≤ w.heap.size) (hn : o.name.size ≤ 1099511627776) (hm : l.length ≤ 1099511627776) (hS : FitsS (l.map core)) (hol : ∀ r ∈ l, r.opens.length + 1 ≤ 1099511627776) :
    Calls Try.prog 24 #[.agg #[v], .agg #[.int .i64 o.kind, .string o.name, .int .i64 o.pos, .string o.bytes]] w (One w B v (changeF (l.map core) o).1 (changeF (l.map core) o).2) := by
  unfold changeF
  by_cases hbad : badOp o = true
  · rw [if_pos hbad]
    exact one_bad l v B o w hown hbad hn
  rw [if_neg hbad]
  have hnm : nameB o.name = true ∧ 1 ≤ o.kind ∧ o.kind ≤ 4 := by
    unfold badOp at hbad
    simp only [Bool.or_eq_true, decide_eq_true_eq, Bool.not_eq_true', not_or] at hbad
    exact ⟨by simpa using hbad.2, by omega, by omega⟩
  by_cases h1 : o.kind = 1
  · rw [if_pos h1]
    exact one_put l v B o w hown hB h1 hnm.1 hn hm hol
  rw [if_neg h1, ← idx_core]
  rcases idx_cases (sameName o.name) l with ⟨_, hi⟩ | ⟨k, hk, hi, _⟩
  · rw [if_pos (by omega)]
    exact one_gone l v B o w hown (by omega) hnm.2.2 hnm.1 hn hm hi
  rw [if_neg (by omega), hi]
  have hk2 : ((k : Int)).toNat = k := by omega
  rw [hk2]
  have hsafe : l[k].safe.size ≤ 1099511627776 := by have : l[k].safe.size ≤ 2097152 := hS.safe (core l[k]) (List.mem_map_of_mem (List.getElem_mem _)); omega
  have hopk : l[k].opens.length ≤ 1099511627776 := by have := hol l[k] (List.getElem_mem _); omega
  have hbyt : ∀ x ∈ l[k].opens, x.bytes.size ≤ 1099510579200 := fun x hx => by have : x.bytes.size ≤ 1048576 := hS.bytes (core l[k]) (List.mem_map_of_mem (List.getElem_mem _)) x hx; omega
  by_cases h2 : o.kind = 2
  · rw [if_pos h2, h2]
    have e : (l.map core).modify k (fun f => ⟨f.name, allF f, []⟩) = (l.map core).set k ⟨l[k].name, layB l[k].safe l[k].opens, []⟩ := by
      apply List.ext_getElem?
      intro j
      rw [List.getElem?_modify, List.getElem?_set]
      by_cases e : k = j
      · subst e
        simp [hk, core, allF]
      · simp [e]
    rw [e]
    exact one_sync l v B k o.name o.pos o.bytes w hown hnm.1 hn hm hk hi hsafe hopk hbyt
  rw [if_neg h2]
  by_cases h3 : o.kind = 3
  · rw [if_pos h3, h3]
    have e : (l.map core)[k]? = some (core l[k]) := by simp [hk]
    rw [e]
    dsimp only
    by_cases hb : o.pos < 0 ∨ ((allF (core l[k])).size : Int) < o.pos
    · rw [if_pos hb]
      exact one_nocut l v B k o.name o.pos o.bytes w hown hnm.1 hn hm hk hi hsafe hopk hbyt hb
    · rw [if_neg hb]
      have hb2 : ¬ (o.pos < 0 ∨ ((layB l[k].safe l[k].opens).size : Int) < o.pos) := hb
      obtain ⟨t, ht⟩ : ∃ t : Nat, o.pos = (t : Int) := ⟨o.pos.toNat, by omega⟩
      rw [ht] at hb2 ⊢
      exact one_cut l v B k o.name t o.bytes w hown hnm.1 hn hm hk hi hsafe hopk hbyt (by omega)
  rw [if_neg h3]
  have h4 : o.kind = 4 := by omega
  rw [h4]
  exact one_drop l v B k o.name o.pos o.bytes w hown hnm.1 hn hm hk hi hsafe hopk hbyt
end Go.Proofs.Ytfpdfhncifcghaa
