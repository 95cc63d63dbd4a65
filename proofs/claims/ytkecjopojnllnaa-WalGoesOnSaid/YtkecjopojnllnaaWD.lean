/- A log that is written, crashes and is opened: a beginning of the records is there, with all that are safe (plain). -/
import Derived.Test.YtkecjopojnllnaaWC
namespace Go.Proofs.Ytkecjopojnllnaa
open Go.RowKit Go.Deep Go.Joins

theorem Log.has {p : ByteArray} {fs : List Fl} {Gs : List (List ByteArray)} {S U : List ByteArray} (h : Log p fs Gs S U) (m : Nat) (b : ByteArray) :
    Has p fs m b ↔ (∃ h : m < Gs.length, b = ofL (catL Gs[m])) ∨ (m = Gs.length ∧ b = ofL (catL (S ++ U))) := by
  have hf := h.few
  constructor
  · rintro ⟨f, hf1, h1, h2⟩
    rcases (h.mem f).1 hf1 with ⟨i, hi, rfl⟩ | rfl
    · have e := nameOf_inj (by omega) (numB_name.1 h1).2 (numB_name.1 h1).1
      subst e
      exact .inl ⟨hi, h2.symm⟩
    · have e := nameOf_inj (by omega) (numB_name.1 h1).2 (numB_name.1 h1).1
      subst e
      exact .inr ⟨rfl, by rw [← h2, all_last p _ S U h.size]⟩
  · rintro (⟨hm, rfl⟩ | ⟨rfl, rfl⟩)
    · exact ⟨_, (h.mem _).2 (.inl ⟨m, hm, rfl⟩), numB_name.2 ⟨rfl, by omega⟩, rfl⟩
    · exact ⟨_, (h.mem _).2 (.inr rfl), numB_name.2 ⟨rfl, by omega⟩, all_last p _ S U h.size⟩
theorem Log.hasN {p : ByteArray} {l : List Rw} {Gs : List (List ByteArray)} {S U : List ByteArray} (h : Log p (l.map core) Gs S U) (m : Nat) : Go.Proofs.Ytkecjopojnllnaa.hasN p l m ↔ m ≤ Gs.length := by
  constructor
  · intro h1
    rcases (h.has _ _).1 (hasN_Has h1) with ⟨h2, _⟩ | ⟨h2, _⟩ <;> omega
  · intro h1
    rcases Nat.lt_or_ge m Gs.length with h2 | h2
    · exact Has_hasN ((h.has m _).2 (.inl ⟨h2, rfl⟩))
    · exact Has_hasN ((h.has m _).2 (.inr ⟨by omega, rfl⟩))
theorem Log.last {p : ByteArray} {l : List Rw} {Gs : List (List ByteArray)} {S U : List ByteArray} (h : Log p (l.map core) Gs S U) {n s : Nat} (he : EndAt p l n s) : n = Gs.length ∧ s = (catL (S ++ U)).length := by
  rcases he with ⟨h1, _, _⟩ | ⟨r, h1, h2, h3⟩
  · exact absurd ((h.hasN 0).2 (Nat.zero_le _)) (h1 0)
  · have a1 := (h.hasN n).1 (find_has h2)
    have a2 := h1 _ ((h.hasN Gs.length).2 (Nat.le_refl _))
    have hn : n = Gs.length := by omega
    subst hn
    refine ⟨rfl, ?_⟩
    have hm : Has p (l.map core) Gs.length (allF (core r)) := ⟨core r, List.mem_map_of_mem (List.mem_of_find?_eq_some h2), (show numB p r.name = some Gs.length by simpa using List.find?_some h2), rfl⟩
    rcases (h.has _ _).1 hm with ⟨h4, _⟩ | ⟨_, h4⟩
    · omega
    · rw [h3, show layB r.safe r.opens = allF (core r) from rfl, h4, ofL_size]
/-- The disk of a log of these records, of which the first c are safe; m bounds its segments. -/
def WSt (p : ByteArray) (fs : List Fl) (Q : List ByteArray) (c m : Nat) : Prop :=
  (fs = [] ∧ Q = [] ∧ c = 0) ∨ ∃ Gs S U, Log p fs Gs S U ∧ Gs.flatten ++ (S ++ U) = Q ∧ c ≤ (Gs.flatten ++ S).length ∧ Gs.length + 1 ≤ m
theorem app_st {p : ByteArray} {l : List Rw} {Q : List ByteArray} {c m : Nat} {r : ByteArray} {P : List DOp} {err : Int} (hp : prefB p = true) (h : WSt p (l.map core) Q c m) (hr : r.size ≤ 40000) (hm : m ≤ 30) (ha : AppQ p l [r] P err) :
    err = 0 ∧ ∃ gs, Exec (l.map core) P gs ∧ WSt p gs (Q ++ [r]) c (m + 1) := by
  rcases ha with ⟨h1, _⟩ | ⟨_, n, s, he, ha⟩
  · rw [hp] at h1; cases h1
  have hsh : shortR [r] := fun x hx => by rw [List.mem_singleton] at hx; rw [hx]; omega
  have hrun : apRun p n s (framesOf [r]) = apOne p ⟨[], n, s⟩ (frameB r) := rfl
  have hz := frameB_size r
  rcases h with ⟨h1, h2, h3⟩ | ⟨Gs, S, U, hl, hq, hc, hgm⟩
  · have hn0 : n = 0 ∧ s = 0 := by
      rcases he with ⟨_, e1, e2⟩ | ⟨x, _, e2, _⟩
      · exact ⟨e1, e2⟩
      · have := List.mem_of_find?_eq_some e2
        have hnil : l = [] := List.map_eq_nil_iff.1 h1
        rw [hnil] at this
        cases this
    obtain ⟨rfl, rfl⟩ := hn0
    have h4 : apOne p ⟨[], 0, 0⟩ (frameB r) = some ⟨[putOp (nameOf p 0) 0 (frameB r)], 0, 0 + (frameB r).size⟩ := by
      unfold apOne
      rw [if_neg (fun x => absurd x.1 (Nat.lt_irrefl 0))]
      rfl
    rw [h4] at hrun
    rcases ha with ⟨x, _⟩ | ⟨_, a, x, rfl, rfl⟩ | ⟨_, x, _⟩
    · exact absurd hsh x
    · rw [hrun] at x
      obtain rfl := Option.some.inj x
      obtain ⟨gs, g1, g2⟩ := Log.first hp hr
      refine ⟨rfl, gs, ?_, .inr ⟨[], [], [r], g2, by rw [h2]; rfl, by omega, by simp⟩⟩
      rw [h1]
      exact Exec.one g1
    · rw [hrun] at x; cases x
  · obtain ⟨rfl, rfl⟩ := hl.last he
    have hsz := hl.size
    by_cases hb : 0 < (catL (S ++ U)).length ∧ 65536 < (catL (S ++ U)).length + (frameB r).size
    · have h4 : apOne p ⟨[], Gs.length, (catL (S ++ U)).length⟩ (frameB r) = some ⟨[syncOp (nameOf p Gs.length)] ++ [putOp (nameOf p (Gs.length + 1)) 0 (frameB r)], Gs.length + 1, (frameB r).size⟩ := by
        unfold apOne
        rw [if_pos hb, if_neg (by have := hl.few; dsimp only; omega)]
        rfl
      rw [h4] at hrun
      rcases ha with ⟨x, _⟩ | ⟨_, a, x, rfl, rfl⟩ | ⟨_, x, _⟩
      · exact absurd hsh x
      · rw [hrun] at x
        obtain rfl := Option.some.inj x
        obtain ⟨g1, a1, l1⟩ := hl.sync hp
        have hS : 0 < (S ++ U).length := by
          rcases Nat.eq_zero_or_pos (S ++ U).length with h0 | h0
          · rw [List.length_eq_zero_iff.1 h0] at hb
            exact absurd hb.1 (by simp [catL])
          · exact h0
        obtain ⟨g2, a2, l2⟩ := l1.fresh hp hr hS (by omega)
        refine ⟨rfl, g2, (Exec.one a1).append (Exec.one a2), .inr ⟨Gs ++ [S ++ U], [], [r], l2, ?_, ?_, ?_⟩⟩
        · rw [← hq]; simp
        · rw [List.flatten_append]
          simp only [List.length_append, List.flatten_cons, List.flatten_nil, List.append_nil] at hc ⊢
          omega
        · rw [List.length_append, List.length_singleton]; omega
      · rw [hrun] at x; cases x
    · have h4 : apOne p ⟨[], Gs.length, (catL (S ++ U)).length⟩ (frameB r) = some ⟨[putOp (nameOf p Gs.length) (catL (S ++ U)).length (frameB r)], Gs.length, (catL (S ++ U)).length + (frameB r).size⟩ := by
        unfold apOne
        rw [if_neg hb]
        rfl
      rw [h4] at hrun
      rcases ha with ⟨x, _⟩ | ⟨_, a, x, rfl, rfl⟩ | ⟨_, x, _⟩
      · exact absurd hsh x
      · rw [hrun] at x
        obtain rfl := Option.some.inj x
        obtain ⟨g1, a1, l1⟩ := hl.put hp (show r.size ≤ 131072 by omega) (by omega)
        exact ⟨rfl, g1, Exec.one a1, .inr ⟨Gs, S, U ++ [r], l1, by rw [← hq]; simp, hc, by omega⟩⟩
      · rw [hrun] at x; cases x
theorem sync_st {p : ByteArray} {l : List Rw} {Q : List ByteArray} {c m : Nat} {P : List DOp} {err : Int} (hp : prefB p = true) (h : WSt p (l.map core) Q c m) (ha : SyQ p l P err) :
    err = 0 ∧ ∃ gs, Exec (l.map core) P gs ∧ WSt p gs Q Q.length m := by
  rcases ha with ⟨h1, _⟩ | ⟨_, ha, rfl⟩
  · rw [hp] at h1; cases h1
  refine ⟨rfl, ?_⟩
  rcases h with ⟨h1, h2, h3⟩ | ⟨Gs, S, U, hl, hq, hc, hgm⟩
  · have hnil : l = [] := List.map_eq_nil_iff.1 h1
    rcases ha with ⟨_, rfl⟩ | ⟨n, ⟨x, hx, _⟩, _⟩
    · exact ⟨_, Exec.nil _, .inl ⟨h1, h2, by rw [h2]; rfl⟩⟩
    · rw [hnil] at hx; cases hx
  · rcases ha with ⟨x, _⟩ | ⟨n, x1, x2, rfl⟩
    · exact absurd ((hl.hasN 0).2 (Nat.zero_le _)) (x 0)
    · have a1 := (hl.hasN n).1 x1
      have a2 := x2 _ ((hl.hasN Gs.length).2 (Nat.le_refl _))
      have hn : n = Gs.length := by omega
      subst hn
      obtain ⟨g1, e1, l1⟩ := hl.sync hp
      refine ⟨g1, Exec.one e1, .inr ⟨Gs, S ++ U, [], l1, by rw [List.append_nil]; exact hq, by rw [← hq]; exact Nat.le_refl _, hgm⟩⟩
/-- What a crash leaves of a log's disk. -/
structure Left2 (p : ByteArray) (gs : List Fl) (Gs : List (List ByteArray)) (R : List ByteArray) (T : List UInt8) : Prop where
  uniq : Uniq gs
  has : ∀ m b, Has p gs m b ↔ (∃ h : m < Gs.length, b = ofL (catL Gs[m])) ∨ (m = Gs.length ∧ b = ofL (catL R ++ T))
  gap : T = [] ∨ ∃ s : ByteArray, s.size ≤ 131072 ∧ Gap (frL s) T
  full : ∀ G ∈ Gs, 0 < G.length ∧ shortR G
  short : shortR R
  few : Gs.length ≤ 30
theorem crash_core (l : List Rw) (ft : List Ft) (i : Nat) (hi : i < l.length) : ((crashRows l ft).map core)[i]? = some ⟨l[i].name, layB l[i].safe (survOf l[i] ft[i]?), []⟩ := by
  unfold crashRows
  rw [List.getElem?_map, List.getElem?_mapIdx, List.getElem?_eq_getElem hi]
  rfl
theorem crash_log {p : ByteArray} {l : List Rw} {Gs : List (List ByteArray)} {S U : List ByteArray} (h : Log p (l.map core) Gs S U) (ft : List Ft) : ∃ j T, Left2 p ((crashRows l ft).map core) Gs (S ++ U.take j) T := by
  have hlen : ((crashRows l ft).map core).length = l.length := by unfold crashRows; rw [List.length_map, List.length_mapIdx]
  have hget : ∀ i (hi : i < ((crashRows l ft).map core).length), ((crashRows l ft).map core)[i] = ⟨(l[i]'(by omega)).name, layB (l[i]'(by omega)).safe (survOf (l[i]'(by omega)) ft[i]?), []⟩ := fun i hi => by
    have h1 := crash_core l ft i (by omega)
    rw [List.getElem?_eq_getElem hi] at h1
    exact Option.some.inj h1
  have hu := h.uniq
  have hu2 : Uniq ((crashRows l ft).map core) := Uniq.of_inj fun i j hi hj e => by
    rw [hget i hi, hget j hj] at e
    exact hu.inj (i := i) (j := j) (by rw [List.length_map]; omega) (by rw [List.length_map]; omega) (by rw [List.getElem_map, List.getElem_map]; exact e)
  obtain ⟨k, hk, hkl⟩ := h.index
  rw [List.length_map] at hk
  rw [List.getElem_map] at hkl
  have k1 : l[k].name = nameOf p Gs.length := congrArg Fl.name hkl
  have k2 : l[k].safe = ofL (catL S) := congrArg Fl.safe hkl
  have k3 : l[k].opens = putsF (catL S).length U := congrArg Fl.opens hkl
  have hsz := h.size
  rw [catL_append, List.length_append] at hsz
  have hbeg : ∃ B, layB l[k].safe (survOf l[k] ft[k]?) = ofL B ∧ Begun (catL S) U B := by
    rw [k2]
    cases hft : ft[k]? with
    | none => exact ⟨catL S, rfl, begun_none _ _⟩
    | some f =>
      show ∃ B, layB (ofL (catL S)) (surv f.whole f.torn f.nb 0 l[k].opens) = ofL B ∧ _
      rw [k3, layB_ofL]
      exact ⟨_, rfl, crash_begun _ _ _ U 0 (catL S) (by omega)⟩
  obtain ⟨B, hB, j, T, hBT, hj⟩ := hbeg
  have hfew := h.few
  refine ⟨j, T, hu2, fun m b => ?_, ?_, fun G hG => ⟨(h.full G hG).1, (h.full G hG).2.1⟩, fun x hx => ?_, h.few⟩
  · have hBe : ofL B = ofL (catL (S ++ U.take j) ++ T) := by rw [hBT, catL_append, List.append_assoc]
    constructor
    · intro hm
      obtain ⟨i, hi, m1, m2, m3⟩ := hm.at
      rw [hget i hi] at m1 m3
      have hil : i < l.length := by omega
      have m3' : layB l[i].safe (survOf l[i] ft[i]?) = b := m3
      have hin : core l[i] ∈ l.map core := List.mem_map_of_mem (List.getElem_mem hil)
      rcases (h.mem _).1 hin with ⟨t, ht, e⟩ | e
      · have e1 : l[i].name = nameOf p t := congrArg Fl.name e
        have e2 : l[i].safe = ofL (catL Gs[t]) := congrArg Fl.safe e
        have e3 : l[i].opens = [] := congrArg Fl.opens e
        have hmt : m = t := nameOf_inj m2 (by omega) (m1.symm.trans e1)
        subst hmt
        refine .inl ⟨ht, ?_⟩
        rw [← m3', e2]
        cases ft[i]? with
        | none => rfl
        | some f => show layB _ (surv f.whole f.torn f.nb 0 l[i].opens) = _; rw [e3]; rfl
      · have e1 : l[i].name = nameOf p Gs.length := congrArg Fl.name e
        have hmt : m = Gs.length := nameOf_inj m2 (by omega) (m1.symm.trans e1)
        have hik : i = k := hu.inj (i := i) (j := k) (by rw [List.length_map]; exact hil) (by rw [List.length_map]; exact hk) (by rw [List.getElem_map, List.getElem_map]; exact e1.trans k1.symm)
        subst hik
        exact .inr ⟨hmt, by rw [← m3', hB, hBe]⟩
    · rintro (⟨hm, rfl⟩ | ⟨rfl, rfl⟩)
      · have hin := (h.mem (fullF p m Gs[m])).2 (.inl ⟨m, hm, rfl⟩)
        obtain ⟨i, hi, e⟩ := List.getElem_of_mem hin
        rw [List.length_map] at hi
        rw [List.getElem_map] at e
        have e1 : l[i].name = nameOf p m := congrArg Fl.name e
        have e2 : l[i].safe = ofL (catL Gs[m]) := congrArg Fl.safe e
        have e3 : l[i].opens = [] := congrArg Fl.opens e
        refine Has.of (k := i) (by omega) (by rw [hget i (by omega)]; exact e1) (by omega) ?_
        rw [hget i (by omega)]
        show layB l[i].safe (survOf l[i] ft[i]?) = _
        rw [e2]
        cases ft[i]? with
        | none => rfl
        | some f => show layB _ (surv f.whole f.torn f.nb 0 l[i].opens) = _; rw [e3]; rfl
      · refine Has.of (k := k) (by omega) (by rw [hget k (by omega)]; exact k1) (by omega) ?_
        rw [hget k (by omega)]
        show layB l[k].safe (survOf l[k] ft[k]?) = _
        rw [hB, hBe]
  · rcases hj with ⟨_, h1⟩ | ⟨h1, h2⟩
    · exact .inl h1
    · exact .inr ⟨U[j], h.short _ (List.mem_append_right _ (List.getElem_mem h1)), h2⟩
  · rcases List.mem_append.1 hx with hx | hx
    · exact h.short x (List.mem_append_left _ hx)
    · exact h.short x (List.mem_append_right _ (List.mem_of_mem_take hx))
theorem readS_full (Z : List (ByteArray × ByteArray)) : ∀ (Y : List (ByteArray × ByteArray)), (∀ y ∈ Y, (scanL y.2).2 = y.2.size) → readS (Y ++ Z) = ((Y.flatMap fun y => (scanL y.2).1) ++ (readS Z).1, (readS Z).2) := by
  intro Y
  induction Y with
  | nil => intro _; simp
  | cons y Y ih =>
    intro h
    have h1 := h y List.mem_cons_self
    rw [List.cons_append, readS, if_neg (by omega), ih (fun z hz => h z (List.mem_cons_of_mem _ hz)), List.flatMap_cons, List.append_assoc]
theorem range_flat (Gs : List (List ByteArray)) (f : Nat → List ByteArray) (h : ∀ i (hi : i < Gs.length), f i = Gs[i]) : (List.range Gs.length).flatMap f = Gs.flatten := by
  have e : (List.range Gs.length).map f = Gs := by
    refine List.ext_getElem (by simp) fun i h1 h2 => ?_
    rw [List.getElem_map, List.getElem_range]
    exact h i h2
  rw [List.flatMap_def, e]
/-- Opened, a log that has crashed tells its whole frames. -/
theorem Left2.told {p : ByteArray} {l : List Rw} {Gs : List (List ByteArray)} {R : List ByteArray} {T : List UInt8} (h : Left2 p (l.map core) Gs R T) {r : List ByteArray} {pl : List DOp} (ho : OpenIs p l r pl) : r = Gs.flatten ++ R := by
  have hb : ∀ i (hi : i < Gs.length), bytesN p l i = ofL (catL Gs[i]) := fun i hi => ((Has_iff h.uniq i _).1 ((h.has i _).2 (.inl ⟨hi, rfl⟩))).2
  have hl : bytesN p l Gs.length = ofL (catL R ++ T) := ((Has_iff h.uniq _ _).1 ((h.has _ _).2 (.inr ⟨rfl, rfl⟩))).2
  have hn : ∀ n, n ∈ List.range (Gs.length + 1) ↔ hasN p l n := fun n => by
    rw [List.mem_range]
    constructor
    · intro hn
      rcases Nat.lt_or_ge n Gs.length with h2 | h2
      · exact Has_hasN ((h.has n _).2 (.inl ⟨h2, rfl⟩))
      · exact Has_hasN ((h.has n _).2 (.inr ⟨by omega, rfl⟩))
    · intro hn
      rcases (h.has _ _).1 (hasN_Has hn) with ⟨h2, _⟩ | ⟨h2, _⟩ <;> omega
  obtain ⟨L, hL, hLm, hLo⟩ := ho
  obtain rfl := strict_unique hL (List.pairwise_lt_range (n := Gs.length + 1)) (fun n => by rw [hLm, hn])
  clear hL hLm
  have hscan : ∀ i (hi : i < Gs.length), scanL (bytesN p l i) = (Gs[i], (bytesN p l i).size) := fun i hi => by
    rw [hb i hi]
    have := scan_cat (T := []) (h.full Gs[i] (List.getElem_mem hi)).2 (.inl rfl)
    rw [List.append_nil] at this
    rw [this, ofL_size]
  have hlast : (scanL (bytesN p l Gs.length)).1 = R := by rw [hl, scan_cat h.short h.gap]
  have hX : runN p l (List.range (Gs.length + 1)) = (List.range Gs.length).map (fun n => (nameOf p n, bytesN p l n)) ++ [(nameOf p Gs.length, bytesN p l Gs.length)] := by
    unfold runN
    rw [List.range_succ, List.map_append]
    rfl
  have hread : (readS (runN p l (List.range (Gs.length + 1)))).1 = Gs.flatten ++ R := by
    rw [hX, readS_full _ _ (fun y hy => by
      obtain ⟨n, hn, rfl⟩ := List.mem_map.1 hy
      rw [List.mem_range] at hn
      show (scanL (bytesN p l n)).2 = _
      rw [hscan n hn])]
    rw [List.flatMap_map]
    have e1 : (readS [(nameOf p Gs.length, bytesN p l Gs.length)]).1 = R := by
      rw [readS]
      split
      · exact hlast
      · show (scanL (bytesN p l Gs.length)).1 ++ [] = R
        rw [List.append_nil, hlast]
    rw [e1]
    dsimp only
    rw [range_flat Gs (fun n => (scanL (bytesN p l n)).1) (fun i hi => by rw [hscan i hi])]
  have hXl : (runN p l (List.range (Gs.length + 1))).length = Gs.length + 1 := by rw [runN_length, List.length_range]
  have hrun : runF (numF (List.range (Gs.length + 1))) Gs.length = 0 := runF_all fun j hj => by
    rw [numF_at _ j (by rw [List.length_range]; omega), numF_at _ (j + 1) (by rw [List.length_range]; omega), List.getElem_range, List.getElem_range]
    omega
  have hseg : Go.Proofs.Ytkecjopojnllnaa.seg (runN p l (List.range (Gs.length + 1))) 0 (Gs.length + 1) = runN p l (List.range (Gs.length + 1)) := by
    unfold Go.Proofs.Ytkecjopojnllnaa.seg
    rw [List.drop_zero, List.take_of_length_le (by rw [hXl]; omega)]
  have h0 : (runN p l (List.range (Gs.length + 1)))[0]? = some (nameOf p 0, bytesN p l 0) := by
    rw [List.getElem?_eq_getElem (by rw [hXl]; omega), runN_get p l _ 0 (by rw [List.length_range]; omega)]
    simp
  unfold openS at hLo
  rw [hXl] at hLo
  unfold openF at hLo
  rw [hrun, hseg] at hLo
  cases hh : headB (runN p l (List.range (Gs.length + 1))) 0 with
  | true =>
    rw [hh, if_neg (by decide)] at hLo
    have h5 : ((readS (runN p l (List.range (Gs.length + 1)))).1, [] ++ (readS (runN p l (List.range (Gs.length + 1)))).2) = (r, pl) := by
      rw [← hLo]
      cases Gs.length <;> rfl
    injection h5 with h5 _
    rw [← h5, hread]
  | false =>
    rw [hh, if_pos (by decide)] at hLo
    have h5 : (([] : List ByteArray), [] ++ dropsX (runN p l (List.range (Gs.length + 1)))) = (r, pl) := by
      rw [← hLo]
      cases Gs.length <;> rfl
    injection h5 with h5 _
    rw [← h5]
    unfold headB at hh
    rw [h0] at hh
    have hh : (scanL (bytesN p l 0)).1.length = 0 := by simpa using hh
    rcases Nat.eq_zero_or_pos Gs.length with h6 | h6
    · have hg : Gs = [] := List.length_eq_zero_iff.1 h6
      rw [h6] at hlast
      rw [hlast] at hh
      rw [hg, List.length_eq_zero_iff.1 hh]
      rfl
    · rw [hscan 0 h6] at hh
      have := (h.full Gs[0] (List.getElem_mem h6)).1
      dsimp only at hh
      omega
/-- Behind a crash Open tells a beginning of the records, with all that are safe. -/
theorem crash_st {p : ByteArray} {l : List Rw} {Q : List ByteArray} {c m : Nat} (h : WSt p (l.map core) Q c m) (ft : List Ft) : Uniq ((crashRows l ft).map core) ∧
    ∀ l' : List Rw, l'.map core = (crashRows l ft).map core → ∀ r pl, OpenIs p l' r pl → c ≤ r.length ∧ r.length ≤ Q.length ∧ r = Q.take r.length := by
  rcases h with ⟨h1, h2, h3⟩ | ⟨Gs, S, U, hl, hq, hc, hgm⟩
  · have hnil : l = [] := List.map_eq_nil_iff.1 h1
    subst hnil
    refine ⟨List.Pairwise.nil, fun l' hl' r pl ho => ?_⟩
    have hl0 : l' = [] := List.map_eq_nil_iff.1 hl'
    subst hl0
    obtain ⟨L, hL, hLm, hLo⟩ := ho
    have hLn : L = [] := by
      cases L with
      | nil => rfl
      | cons n L => exact absurd ((hLm n).1 List.mem_cons_self) (fun ⟨x, hx, _⟩ => by cases hx)
    subst hLn
    have : (([] : List ByteArray), ([] : List DOp)) = (r, pl) := hLo
    injection this with h4 _
    subst h4
    exact ⟨by rw [h3]; exact Nat.zero_le _, Nat.zero_le _, by simp⟩
  · obtain ⟨j, T, hleft⟩ := crash_log hl ft
    refine ⟨hleft.uniq, fun l' hl' r pl ho => ?_⟩
    rw [← hl'] at hleft
    have hr := hleft.told ho
    have hpre : r <+: Q := by
      rw [hr, ← hq, ← List.append_assoc, ← List.append_assoc]
      exact ⟨U.drop j, by rw [List.append_assoc, List.take_append_drop]⟩
    refine ⟨?_, hpre.length_le, List.prefix_iff_eq_take.1 hpre⟩
    rw [hr]
    simp only [List.length_append] at hc ⊢
    omega
end Go.Proofs.Ytkecjopojnllnaa
