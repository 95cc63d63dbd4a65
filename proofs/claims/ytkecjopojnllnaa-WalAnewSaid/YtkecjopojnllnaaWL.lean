/- A log that is begun anew, cut short at any operation, behind a crash: the old one or the one record (plain). -/
import Derived.Test.YtkecjopojnllnaaWI
namespace Go.Proofs.Ytkecjopojnllnaa
open Go.RowKit Go.Deep Go.Joins

/-- A log's disk on which all is safe: segments 0, 1 .. of these records. -/
structure Base (p : ByteArray) (fs : List Fl) (Os : List (List ByteArray)) : Prop where
  uniq : Uniq fs
  mem : ∀ f, f ∈ fs ↔ ∃ i, ∃ h : i < Os.length, f = fullF p i Os[i]
  len : fs.length = Os.length
  few : Os.length ≤ 31
  short : ∀ G ∈ Os, shortR G
  full : ∀ i (h : i < Os.length), i + 1 < Os.length → 0 < Os[i].length
theorem base_of {p : ByteArray} {fs : List Fl} {Q : List ByteArray} {c m : Nat} (h : WSt p fs Q c m) (hc : Q.length ≤ c) : ∃ Os, Base p fs Os ∧ Os.flatten = Q := by
  rcases h with ⟨rfl, rfl, _⟩ | ⟨Gs, S, U, hl, hq, hc2, _⟩
  · exact ⟨[], ⟨List.Pairwise.nil, (fun f => by simp), rfl, by simp, (fun G hG => by cases hG), (fun i h => absurd h (by simp))⟩, rfl⟩
  · have hU : U = [] := by
      apply List.length_eq_zero_iff.1
      rw [← hq] at hc
      simp only [List.length_append] at hc hc2
      omega
    subst hU
    refine ⟨Gs ++ [S], ⟨hl.uniq, fun f => ?_, by rw [hl.len, List.length_append]; rfl, by rw [List.length_append, List.length_singleton]; have := hl.few; omega, fun G hG => ?_, fun i hi h2 => ?_⟩, by rw [← hq]; simp⟩
    · rw [hl.mem]
      have hgl : (Gs ++ [S]).length = Gs.length + 1 := by rw [List.length_append]; rfl
      constructor
      · rintro (⟨i, hi, rfl⟩ | rfl)
        · exact ⟨i, by omega, by rw [List.getElem_append_left hi]⟩
        · exact ⟨Gs.length, by omega, by rw [List.getElem_append_right (Nat.le_refl _)]; simp [fullF, lastF, putsF]⟩
      · rintro ⟨i, hi, rfl⟩
        rcases Nat.lt_or_ge i Gs.length with h6 | h6
        · exact .inl ⟨i, h6, by rw [List.getElem_append_left h6]⟩
        · have h7 : i = Gs.length := by omega
          subst h7
          exact .inr (by rw [List.getElem_append_right (Nat.le_refl _)]; simp [fullF, lastF, putsF])
    · rcases List.mem_append.1 hG with h | h
      · exact (hl.full G h).2.1
      · rw [List.mem_singleton] at h
        rw [h]
        have := hl.short
        rw [List.append_nil] at this
        exact this
    · rw [List.length_append, List.length_singleton] at h2
      rw [List.getElem_append_left (by omega)]
      exact (hl.full _ (List.getElem_mem _)).1
theorem Base.has {p : ByteArray} {fs : List Fl} {Os : List (List ByteArray)} (h : Base p fs Os) (m : Nat) (b : ByteArray) : Has p fs m b ↔ ∃ h : m < Os.length, b = ofL (catL Os[m]) := by
  have hf := h.few
  constructor
  · rintro ⟨f, hf1, h1, h2⟩
    obtain ⟨i, hi, rfl⟩ := (h.mem f).1 hf1
    have e := nameOf_inj (by omega) (numB_name.1 h1).2 (numB_name.1 h1).1
    subst e
    exact ⟨hi, h2.symm⟩
  · rintro ⟨hm, rfl⟩
    exact ⟨_, (h.mem _).2 ⟨m, hm, rfl⟩, numB_name.2 ⟨rfl, by omega⟩, rfl⟩
theorem Base.plain {p : ByteArray} {fs : List Fl} {Os : List (List ByteArray)} (h : Base p fs Os) : Plain p fs := fun f hf => by
  have := h.few
  obtain ⟨i, hi, rfl⟩ := (h.mem f).1 hf
  exact ⟨rfl, i, numB_name.2 ⟨rfl, by omega⟩⟩
/-- Old segments up to one, and a new one behind a gap. -/
structure Anew (p : ByteArray) (gs : List Fl) (Os : List (List ByteArray)) (t N : Nat) (R : List ByteArray) (T : List UInt8) : Prop where
  uniq : Uniq gs
  has : ∀ m b, Has p gs m b ↔ (∃ h : m < Os.length, m < t ∧ b = ofL (catL Os[m])) ∨ (m = N ∧ b = ofL (catL R ++ T))
  gap : T = [] ∨ ∃ s : ByteArray, s.size ≤ 131072 ∧ Gap (frL s) T
  shorts : ∀ G ∈ Os, shortR G
  short : shortR R
  t_le : t ≤ Os.length
  far : t = 0 ∨ t < N
  full : ∀ i (h : i < Os.length), i + 1 < Os.length → 0 < Os[i].length
theorem openF_found (f : Nat → Int) (X : List (ByteArray × ByteArray)) : ∀ (u k : Nat) (r : List ByteArray) (pl : List DOp), (openF f X u k true r pl).1 = r := by
  intro u
  induction u with
  | zero => intro k r pl; rfl
  | succ u ih =>
    intro k r pl
    cases k with
    | zero => rfl
    | succ k => unfold openF; rw [Bool.true_or, if_pos rfl]; exact ih _ _ _
theorem Anew.told {p : ByteArray} {l : List Rw} {Os : List (List ByteArray)} {t N : Nat} {R : List ByteArray} {T : List UInt8} (h : Anew p (l.map core) Os t N R T) {r : List ByteArray} {pl : List DOp} (ho : OpenIs p l r pl) :
    (R ≠ [] → r = R) ∧ (R = [] → t = Os.length → r = Os.flatten) := by
  have htl := h.t_le
  have hfar := h.far
  have hb : ∀ i (hi : i < t), bytesN p l i = ofL (catL (Os[i]'(by omega))) := fun i hi => ((Has_iff h.uniq i _).1 ((h.has i _).2 (.inl ⟨by omega, hi, rfl⟩))).2
  have hl : bytesN p l N = ofL (catL R ++ T) := ((Has_iff h.uniq _ _).1 ((h.has _ _).2 (.inr ⟨rfl, rfl⟩))).2
  have hn : ∀ n, n ∈ List.range t ++ [N] ↔ hasN p l n := fun n => by
    rw [List.mem_append, List.mem_range, List.mem_singleton]
    constructor
    · rintro (hn | hn)
      · exact Has_hasN ((h.has n _).2 (.inl ⟨by omega, hn, rfl⟩))
      · exact Has_hasN ((h.has n _).2 (.inr ⟨hn, rfl⟩))
    · intro hn
      rcases (h.has _ _).1 (hasN_Has hn) with ⟨_, h2, _⟩ | ⟨h2, _⟩
      · exact .inl h2
      · exact .inr h2
  have hst : StrictN (List.range t ++ [N]) := by
    unfold StrictN
    rw [List.pairwise_append]
    refine ⟨List.pairwise_lt_range, List.pairwise_singleton _ _, fun a ha b hb => ?_⟩
    rw [List.mem_range] at ha
    rw [List.mem_singleton] at hb
    omega
  obtain ⟨L, hL, hLm, hLo⟩ := ho
  obtain rfl := strict_unique hL hst (fun n => by rw [hLm, hn])
  clear hL hLm
  have hlen : (List.range t ++ [N]).length = t + 1 := by rw [List.length_append, List.length_range]; rfl
  have hnumO : ∀ j, j < t → numF (List.range t ++ [N]) j = (j : Int) := fun j hj => by
    rw [numF_at _ j (by omega), List.getElem_append_left (by rw [List.length_range]; omega), List.getElem_range]
  have hnumN : numF (List.range t ++ [N]) t = (N : Int) := by
    rw [numF_at _ t (by omega), List.getElem_append_right (by rw [List.length_range]; omega)]
    simp
  have hX : runN p l (List.range t ++ [N]) = (List.range t).map (fun n => (nameOf p n, bytesN p l n)) ++ [(nameOf p N, bytesN p l N)] := by
    unfold runN
    rw [List.map_append]
    rfl
  have hXl : (runN p l (List.range t ++ [N])).length = t + 1 := by rw [runN_length, hlen]
  have hXlast : (runN p l (List.range t ++ [N])).drop t = [(nameOf p N, bytesN p l N)] := by
    rw [hX, List.drop_append_of_le_length (by simp)]
    rw [List.drop_eq_nil_of_le (by simp)]
    rfl
  have hlast : scanL (bytesN p l N) = (R, (catL R).length) := by rw [hl, scan_cat h.short h.gap]
  have hrun1 : runF (numF (List.range t ++ [N])) t = t := by
    cases t with
    | zero => rfl
    | succ t =>
      refine runF_no ?_
      rw [hnumO t (by omega), hnumN]
      omega
  have hseg1 : Go.Proofs.Ytkecjopojnllnaa.seg (runN p l (List.range t ++ [N])) t (t + 1) = [(nameOf p N, bytesN p l N)] := by
    unfold Go.Proofs.Ytkecjopojnllnaa.seg
    rw [hXlast, List.take_of_length_le (by simp)]
  have hhead1 : headB (runN p l (List.range t ++ [N])) t = decide (0 < R.length) := by
    unfold headB
    have : (runN p l (List.range t ++ [N]))[t]? = some (nameOf p N, bytesN p l N) := by
      have h2 := congrArg (fun z => z[0]?) hXlast
      simpa using h2
    rw [this]
    dsimp only
    rw [hlast]
  unfold openS at hLo
  rw [hXl] at hLo
  unfold openF at hLo
  rw [hrun1, hseg1, hhead1] at hLo
  constructor
  · intro hR
    have hpos : 0 < R.length := List.length_pos_iff.2 hR
    rw [if_neg (by simp [hpos])] at hLo
    have h5 := congrArg Prod.fst hLo
    rw [openF_found] at h5
    dsimp only at h5
    rw [← h5, readS]
    split
    · dsimp only; rw [hlast]
    · show (scanL (bytesN p l N)).1 ++ [] = R
      rw [List.append_nil, hlast]
  · intro hR ht
    subst hR
    rw [if_pos (by simp)] at hLo
    have hscan : ∀ i (hi : i < t), scanL (bytesN p l i) = (Os[i]'(by omega), (bytesN p l i).size) := fun i hi => by
      rw [hb i hi]
      have := scan_cat (T := []) (h.shorts (Os[i]'(by omega)) (List.getElem_mem (by omega))) (.inl rfl)
      rw [List.append_nil] at this
      rw [this, ofL_size]
    cases t with
    | zero =>
      have hOs : Os = [] := List.length_eq_zero_iff.1 ht.symm
      have h5 := congrArg Prod.fst hLo
      unfold openF at h5
      have h6 : ([] : List ByteArray) = r := h5
      rw [← h6, hOs]
      rfl
    | succ t =>
      have hrun2 : runF (numF (List.range (t + 1) ++ [N])) t = 0 := runF_all fun j hj => by
        rw [hnumO j (by omega), hnumO (j + 1) (by omega)]
        omega
      have hseg2 : Go.Proofs.Ytkecjopojnllnaa.seg (runN p l (List.range (t + 1) ++ [N])) 0 (t + 1) = (List.range (t + 1)).map (fun n => (nameOf p n, bytesN p l n)) := by
        unfold Go.Proofs.Ytkecjopojnllnaa.seg
        rw [List.drop_zero, Nat.sub_zero, hX, List.take_append_of_le_length (by simp), List.take_of_length_le (by simp)]
      have h0 : (runN p l (List.range (t + 1) ++ [N]))[0]? = some (nameOf p 0, bytesN p l 0) := by
        rw [hX, List.getElem?_append_left (by simp)]
        simp
      have hread : (readS ((List.range (t + 1)).map (fun n => (nameOf p n, bytesN p l n)))).1 = Os.flatten := by
        have := readS_full [] ((List.range (t + 1)).map (fun n => (nameOf p n, bytesN p l n))) (fun y hy => by
          obtain ⟨n, hn, rfl⟩ := List.mem_map.1 hy
          rw [List.mem_range] at hn
          show (scanL (bytesN p l n)).2 = _
          rw [hscan n hn])
        rw [List.append_nil] at this
        rw [this]
        show _ ++ [] = _
        rw [List.append_nil, List.flatMap_map, ht]
        exact range_flat Os (fun n => (scanL (bytesN p l n)).1) (fun i hi => by rw [hscan i (by omega)])
      unfold openF at hLo
      rw [hrun2, hseg2] at hLo
      cases hh : headB (runN p l (List.range (t + 1) ++ [N])) 0 with
      | true =>
        rw [hh, if_neg (by decide)] at hLo
        have h5 := congrArg Prod.fst hLo
        rw [openF_found] at h5
        have h6 : _ = r := h5
        rw [← h6, hread]
      | false =>
        rw [hh, if_pos (by decide)] at hLo
        have h5 := congrArg Prod.fst hLo
        have h6 : r = [] := by
          have h7 : _ = r := h5
          rw [← h7]
          cases t <;> rfl
        unfold headB at hh
        rw [h0] at hh
        have hh : (scanL (bytesN p l 0)).1.length = 0 := by simpa using hh
        rw [hscan 0 (by omega)] at hh
        dsimp only at hh
        have h7 : Os.length = 1 := by
          rcases Nat.lt_or_ge 1 Os.length with h8 | h8
          · have := h.full 0 (by omega) (by omega)
            omega
          · omega
        obtain ⟨G, rfl⟩ := List.length_eq_one_iff.1 h7
        have hG : G = [] := List.length_eq_zero_iff.1 hh
        rw [h6, hG]
        rfl
/-- Files without open writes stay in a crash. -/
theorem crash_same {l : List Rw} {ft : List Ft} (h : ∀ f ∈ l.map core, f.opens = []) : (crashRows l ft).map core = l.map core := by
  have hlen : ((crashRows l ft).map core).length = (l.map core).length := by unfold crashRows; rw [List.length_map, List.length_mapIdx, List.length_map]
  refine List.ext_getElem hlen fun i h1 h2 => ?_
  rw [List.length_map] at h2
  have h3 := crash_core l ft i h2
  rw [List.getElem?_eq_getElem h1] at h3
  rw [Option.some.inj h3, List.getElem_map]
  have h4 : l[i].opens = [] := h (core l[i]) (List.mem_map_of_mem (List.getElem_mem h2))
  have h5 : survOf l[i] ft[i]? = [] := by
    cases ft[i]? with
    | none => rfl
    | some f => show surv f.whole f.torn f.nb 0 l[i].opens = []; rw [h4]; rfl
  rw [h5, layAll_nil]
  unfold core
  rw [h4]
/-- Drops take files away, and change none. -/
theorem exec_sub : ∀ (ops : List DOp) {fs gs : List Fl}, (∀ o ∈ ops, o.kind = 4) → Exec fs ops gs → ∀ f ∈ gs, f ∈ fs := by
  intro ops
  induction ops with
  | nil =>
    intro fs gs _ h f hf
    unfold Exec at h
    rw [doF_nil] at h
    injection h with h _
    rw [h]
    exact hf
  | cons o ops ih =>
    intro fs gs hk h f hf
    unfold Exec at h
    rw [doF_cons] at h
    have hl : ((o :: ops).length : Int) = (ops.length : Int) + 1 := by simp
    split at h
    · injection h with _ h
      injection h with h _
      omega
    · rename_i h0
      have h0 : (changeF fs o).2 = 0 := by simpa using h0
      injection h with e1 e2
      injection e2 with e2 e3
      have h1 := ih (fun x hx => hk x (List.mem_cons_of_mem _ hx)) (fs := (changeF fs o).1) (gs := gs) (by unfold Exec; exact Prod.ext e1 (Prod.ext (by rw [hl] at e2; dsimp only; omega) e3)) f hf
      have h4 := hk o List.mem_cons_self
      unfold changeF at h0 h1
      split at h1
      · exact h1
      · rw [if_neg (by omega)] at h1
        split at h1
        · exact h1
        · rw [if_neg (by omega), if_neg (by omega)] at h1
          exact List.mem_of_mem_eraseIdx h1
end Go.Proofs.Ytkecjopojnllnaa
