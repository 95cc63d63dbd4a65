/- A log that crashed and was mended is a log again; records that are appended at once; what an open tells of a log that did not crash (plain). -/
import Derived.Test.YtkecjopojnllnaaWF
namespace Go.Proofs.Ytkecjopojnllnaa
open Go.RowKit Go.Deep Go.Joins

/-- A log's disk with its end: nothing, or a log that holds some record. -/
def WEnd (p : ByteArray) (fs : List Fl) (Q : List ByteArray) (m n s : Nat) : Prop :=
  (fs = [] ∧ Q = [] ∧ n = 0 ∧ s = 0) ∨ ∃ Gs S U, Log p fs Gs S U ∧ Gs.flatten ++ (S ++ U) = Q ∧ Gs.length + 1 ≤ m ∧ 0 < Q.length ∧ n = Gs.length ∧ s = (catL (S ++ U)).length
theorem WEnd.st {p : ByteArray} {fs : List Fl} {Q : List ByteArray} {m n s : Nat} (h : WEnd p fs Q m n s) : WSt p fs Q 0 m := by
  rcases h with ⟨h1, h2, _⟩ | ⟨Gs, S, U, h1, h2, h3, _⟩
  · exact .inl ⟨h1, h2, rfl⟩
  · exact .inr ⟨Gs, S, U, h1, h2, Nat.zero_le _, h3⟩
theorem WEnd.last {p : ByteArray} {l : List Rw} {Q : List ByteArray} {m n s n' s' : Nat} (h : WEnd p (l.map core) Q m n s) (he : EndAt p l n' s') : n' = n ∧ s' = s := by
  rcases h with ⟨h1, _, rfl, rfl⟩ | ⟨Gs, S, U, h1, _, _, _, rfl, rfl⟩
  · rcases he with ⟨_, e1, e2⟩ | ⟨x, _, e2, _⟩
    · exact ⟨e1, e2⟩
    · have := List.mem_of_find?_eq_some e2
      rw [List.map_eq_nil_iff.1 h1] at this
      cases this
  · exact h1.last he
theorem ap_step {p : ByteArray} {fs : List Fl} {Q : List ByteArray} {m n s : Nat} {r : ByteArray} (hp : prefB p = true) (h : WEnd p fs Q m n s) (hr : r.size ≤ 40000) (hm : m ≤ 30) (pl : List DOp) :
    ∃ ops n' s' gs, apOne p ⟨pl, n, s⟩ (frameB r) = some ⟨pl ++ ops, n', s'⟩ ∧ Exec fs ops gs ∧ WEnd p gs (Q ++ [r]) (m + 1) n' s' := by
  have hz := frameB_size r
  have hpos : 0 < (Q ++ [r]).length := by rw [List.length_append]; exact Nat.succ_pos _
  rcases h with ⟨rfl, rfl, rfl, rfl⟩ | ⟨Gs, S, U, hl, hq, hgm, _, rfl, rfl⟩
  · obtain ⟨gs, g1, g2⟩ := Log.first hp hr
    refine ⟨[putOp (nameOf p 0) 0 (frameB r)], 0, 0 + (frameB r).size, gs, ?_, Exec.one g1, .inr ⟨[], [], [r], g2, rfl, by simp, hpos, rfl, ?_⟩⟩
    · unfold apOne
      rw [if_neg (fun x => absurd x.1 (Nat.lt_irrefl 0))]
    · rw [List.nil_append, catL_one, frL_length]; omega
  · have hsz := hl.size
    by_cases hb : 0 < (catL (S ++ U)).length ∧ 65536 < (catL (S ++ U)).length + (frameB r).size
    · obtain ⟨g1, a1, l1⟩ := hl.sync hp
      have hS : 0 < (S ++ U).length := by
        rcases Nat.eq_zero_or_pos (S ++ U).length with h0 | h0
        · rw [List.length_eq_zero_iff.1 h0] at hb
          exact absurd hb.1 (by simp [catL])
        · exact h0
      obtain ⟨g2, a2, l2⟩ := l1.fresh hp hr hS (by omega)
      refine ⟨[syncOp (nameOf p Gs.length)] ++ [putOp (nameOf p (Gs.length + 1)) 0 (frameB r)], Gs.length + 1, (frameB r).size, g2, ?_, (Exec.one a1).append (Exec.one a2), .inr ⟨Gs ++ [S ++ U], [], [r], l2, ?_, ?_, hpos, ?_, ?_⟩⟩
      · unfold apOne
        rw [if_pos hb, if_neg (by have := hl.few; dsimp only; omega), ← List.append_assoc]
      · rw [← hq]; simp
      · rw [List.length_append, List.length_singleton]; omega
      · rw [List.length_append, List.length_singleton]
      · rw [List.nil_append, catL_one, frL_length, hz]
    · obtain ⟨g1, a1, l1⟩ := hl.put hp (show r.size ≤ 131072 by omega) (by omega)
      refine ⟨[putOp (nameOf p Gs.length) (catL (S ++ U)).length (frameB r)], Gs.length, (catL (S ++ U)).length + (frameB r).size, g1, ?_, Exec.one a1, .inr ⟨Gs, S, U ++ [r], l1, by rw [← hq]; simp, by omega, hpos, rfl, ?_⟩⟩
      · unfold apOne
        rw [if_neg hb]
      · rw [← List.append_assoc, catL_append (S ++ U), List.length_append, catL_one, frL_length, hz]
theorem ap_all {p : ByteArray} {fs : List Fl} {Q : List ByteArray} {m n s : Nat} (hp : prefB p = true) (h : WEnd p fs Q m n s) : ∀ (k : Nat) (R : List ByteArray), R.length = k → (∀ r ∈ R, r.size ≤ 40000) → m + k ≤ 31 →
    ∃ a gs, apRun p n s (framesOf R) = some a ∧ Exec fs a.plan gs ∧ WEnd p gs (Q ++ R) (m + k) a.n a.size ∧ a.plan.length ≤ 2 * k := by
  intro k
  induction k with
  | zero =>
    intro R hR _ _
    rw [List.length_eq_zero_iff.1 hR]
    exact ⟨⟨[], n, s⟩, fs, rfl, Exec.nil _, by rw [List.append_nil]; exact h, Nat.zero_le _⟩
  | succ k ih =>
    intro R hR hs hm
    rcases List.eq_nil_or_concat R with e | ⟨T, r, e⟩
    · rw [e] at hR; cases hR
    · rw [List.concat_eq_append] at e
      subst e
      obtain ⟨a, gs, a1, a2, a3, a4⟩ := ih T (by simpa using hR) (fun x hx => hs x (List.mem_append_left _ hx)) (by omega)
      obtain ⟨ops, n', s', gs', b1, b2, b3⟩ := ap_step hp a3 (hs r (List.mem_append_right _ (List.mem_singleton.2 rfl))) (by omega) a.plan
      refine ⟨⟨a.plan ++ ops, n', s'⟩, gs', ?_, a2.append b2, by rw [← List.append_assoc]; exact b3, ?_⟩
      · unfold framesOf
        rw [List.map_append, List.map_singleton]
        show apRun p n s (framesOf T ++ [frameB r]) = _
        rw [ap_snoc, a1]
        exact b1
      · have hlen : (a.plan ++ ops).length ≤ a.plan.length + 2 := by
          have h4 : ops.length ≤ 2 := by
            unfold apOne at b1
            split at b1
            · split at b1
              · cases b1
              · have := congrArg Ap.plan (Option.some.inj b1)
                dsimp only at this
                rw [List.append_assoc] at this
                rw [← List.append_cancel_left this]
                exact Nat.le_refl 2
            · have := congrArg Ap.plan (Option.some.inj b1)
              dsimp only at this
              rw [← List.append_cancel_left this]
              exact Nat.le_succ 1
          rw [List.length_append]
          exact Nat.add_le_add_left h4 _
        dsimp only
        omega
/-- Several records at once. -/
theorem app_all {p : ByteArray} {l : List Rw} {Q R : List ByteArray} {m n s : Nat} {P : List DOp} {err : Int} (hp : prefB p = true) (h : WEnd p (l.map core) Q m n s) (hs : ∀ r ∈ R, r.size ≤ 40000) (hm : m + R.length ≤ 31) (ha : AppQ p l R P err) :
    err = 0 ∧ P.length ≤ 2 * R.length ∧ ∃ gs n' s', Exec (l.map core) P gs ∧ WEnd p gs (Q ++ R) (m + R.length) n' s' := by
  rcases ha with ⟨h1, _⟩ | ⟨_, n0, s0, he, ha⟩
  · rw [hp] at h1; cases h1
  obtain ⟨rfl, rfl⟩ := h.last he
  obtain ⟨a, gs, a1, a2, a3, a4⟩ := ap_all hp h R.length R rfl hs hm
  have hsh : shortR R := fun x hx => by have := hs x hx; omega
  rcases ha with ⟨x, _⟩ | ⟨_, b, x, rfl, rfl⟩ | ⟨_, x, _⟩
  · exact absurd hsh x
  · rw [a1] at x
    obtain rfl := Option.some.inj x
    exact ⟨rfl, a4, gs, _, _, a2, a3⟩
  · rw [a1] at x; cases x
/-- What Open plans of a log's disk. -/
theorem Left2.plan {p : ByteArray} {l : List Rw} {Gs : List (List ByteArray)} {R : List ByteArray} {T : List UInt8} (h : Left2 p (l.map core) Gs R T) {r : List ByteArray} {pl : List DOp} (ho : OpenIs p l r pl) :
    (0 < r.length ∧ pl = if T = [] then [] else [cutOp (nameOf p Gs.length) (catL R).length]) ∨ (Gs = [] ∧ R = [] ∧ pl = [dropOp (nameOf p 0)]) := by
  have hrr := h.told ho
  have hb : ∀ i (hi : i < Gs.length), bytesN p l i = ofL (catL Gs[i]) := fun i hi => ((Has_iff h.uniq i _).1 ((h.has i _).2 (.inl ⟨hi, rfl⟩))).2
  have hl : bytesN p l Gs.length = ofL (catL R ++ T) := ((Has_iff h.uniq _ _).1 ((h.has _ _).2 (.inr ⟨rfl, rfl⟩))).2
  have hn : ∀ n, n ∈ List.range (Gs.length + 1) ↔ hasN p l n := fun n => by
    rw [List.mem_range]
    constructor
    · intro hn
      rcases Nat.lt_or_ge n Gs.length with h2 | h2
      · exact Has_hasN ((h.has n _).2 (.inl ⟨h2, rfl⟩))
      · exact Has_hasN ((h.has n _).2 (.inr ⟨by omega, rfl⟩))
    · intro hn
      rcases (h.has _ _).1 (hasN_Has hn) with ⟨h2, _⟩ | ⟨h2, _⟩ <;> omega
  obtain ⟨L, hL, hLm, hLo⟩ := ho
  obtain rfl := strict_unique hL (List.pairwise_lt_range (n := Gs.length + 1)) (fun n => by rw [hLm, hn])
  clear hL hLm
  have hscan : ∀ i (hi : i < Gs.length), scanL (bytesN p l i) = (Gs[i], (bytesN p l i).size) := fun i hi => by
    rw [hb i hi]
    have := scan_cat (T := []) (h.full Gs[i] (List.getElem_mem hi)).2 (.inl rfl)
    rw [List.append_nil] at this
    rw [this, ofL_size]
  have hlast : scanL (bytesN p l Gs.length) = (R, (catL R).length) := by rw [hl, scan_cat h.short h.gap]
  have hlsz : (bytesN p l Gs.length).size = (catL R).length + T.length := by rw [hl, ofL_size, List.length_append]
  have hX : runN p l (List.range (Gs.length + 1)) = (List.range Gs.length).map (fun n => (nameOf p n, bytesN p l n)) ++ [(nameOf p Gs.length, bytesN p l Gs.length)] := by
    unfold runN
    rw [List.range_succ, List.map_append]
    rfl
  have hread : (readS (runN p l (List.range (Gs.length + 1)))).2 = if T = [] then [] else [cutOp (nameOf p Gs.length) (catL R).length] := by
    rw [hX, readS_full _ _ (fun y hy => by
      obtain ⟨n, hn, rfl⟩ := List.mem_map.1 hy
      rw [List.mem_range] at hn
      show (scanL (bytesN p l n)).2 = _
      rw [hscan n hn])]
    dsimp only
    rw [readS]
    dsimp only
    rw [hlast, hlsz]
    dsimp only
    by_cases hT : T = []
    · rw [if_pos hT, hT, if_neg (by simp)]
      rfl
    · have : 0 < T.length := List.length_pos_iff.2 hT
      rw [if_neg hT, if_pos (by omega)]
      rfl
  have hXl : (runN p l (List.range (Gs.length + 1))).length = Gs.length + 1 := by rw [runN_length, List.length_range]
  have hrun : runF (numF (List.range (Gs.length + 1))) Gs.length = 0 := runF_all fun j hj => by
    rw [numF_at _ j (by rw [List.length_range]; omega), numF_at _ (j + 1) (by rw [List.length_range]; omega), List.getElem_range, List.getElem_range]
    omega
  have hseg : Go.Proofs.Ytkecjopojnllnaa.seg (runN p l (List.range (Gs.length + 1))) 0 (Gs.length + 1) = runN p l (List.range (Gs.length + 1)) := by
    unfold Go.Proofs.Ytkecjopojnllnaa.seg
    rw [List.drop_zero, List.take_of_length_le (by rw [hXl]; omega)]
  have h0 : (runN p l (List.range (Gs.length + 1)))[0]? = some (nameOf p 0, bytesN p l 0) := by
    rw [List.getElem?_eq_getElem (by rw [hXl]; omega), runN_get p l _ 0 (by rw [List.length_range]; omega)]
    simp
  unfold openS at hLo
  rw [hXl] at hLo
  unfold openF at hLo
  rw [hrun, hseg] at hLo
  cases hh : headB (runN p l (List.range (Gs.length + 1))) 0 with
  | true =>
    left
    rw [hh, if_neg (by decide)] at hLo
    have h5 : ((readS (runN p l (List.range (Gs.length + 1)))).1, [] ++ (readS (runN p l (List.range (Gs.length + 1)))).2) = (r, pl) := by
      rw [← hLo]
      cases Gs.length <;> rfl
    injection h5 with _ h5
    refine ⟨?_, by rw [← h5, hread]; rfl⟩
    unfold headB at hh
    rw [h0] at hh
    have hh : 0 < (scanL (bytesN p l 0)).1.length := by simpa using hh
    rw [hrr, List.length_append]
    rcases Nat.eq_zero_or_pos Gs.length with h6 | h6
    · rw [h6] at hlast
      rw [hlast] at hh
      exact Nat.add_pos_right _ hh
    · have h7 := (h.full Gs[0] (List.getElem_mem h6)).1
      have : 0 < Gs.flatten.length := by
        obtain ⟨G, Gs', rfl⟩ : ∃ G Gs', Gs = G :: Gs' := by
          cases Gs with
          | nil => cases h6
          | cons G Gs' => exact ⟨G, Gs', rfl⟩
        rw [List.flatten_cons, List.length_append]
        exact Nat.add_pos_left h7 _
      omega
  | false =>
    right
    rw [hh, if_pos (by decide)] at hLo
    have h5 : (([] : List ByteArray), [] ++ dropsX (runN p l (List.range (Gs.length + 1)))) = (r, pl) := by
      rw [← hLo]
      cases Gs.length <;> rfl
    injection h5 with h5a h5
    unfold headB at hh
    rw [h0] at hh
    have hh : (scanL (bytesN p l 0)).1.length = 0 := by simpa using hh
    rcases Nat.eq_zero_or_pos Gs.length with h6 | h6
    · have hg : Gs = [] := List.length_eq_zero_iff.1 h6
      rw [h6] at hlast
      rw [hlast] at hh
      refine ⟨hg, List.length_eq_zero_iff.1 hh, ?_⟩
      rw [← h5, hX, h6]
      rfl
    · rw [hscan 0 h6] at hh
      have := (h.full Gs[0] (List.getElem_mem h6)).1
      dsimp only at hh
      omega
end Go.Proofs.Ytkecjopojnllnaa
