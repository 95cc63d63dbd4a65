/- A log on the plain disk: full segments and a last one; what an append and a sync leave. -/
import Derived.Test.YtkecjopojnllnaaWB
namespace Go.Proofs.Ytkecjopojnllnaa
open Go.RowKit Go.Deep Go.Joins

def fullF (p : ByteArray) (i : Nat) (G : List ByteArray) : Fl := ⟨nameOf p i, ofL (catL G), []⟩
def lastF (p : ByteArray) (n : Nat) (S U : List ByteArray) : Fl := ⟨nameOf p n, ofL (catL S), putsF (catL S).length U⟩
/-- The files are a log's segments: full ones of these records, and a last one, of which some records are safe. -/
structure Log (p : ByteArray) (fs : List Fl) (Gs : List (List ByteArray)) (S U : List ByteArray) : Prop where
  uniq : Uniq fs
  mem : ∀ f, f ∈ fs ↔ (∃ i, ∃ h : i < Gs.length, f = fullF p i Gs[i]) ∨ f = lastF p Gs.length S U
  len : fs.length = Gs.length + 1
  few : Gs.length ≤ 30
  full : ∀ G ∈ Gs, 0 < G.length ∧ shortR G ∧ (catL G).length ≤ 65536
  short : shortR (S ++ U)
  size : (catL (S ++ U)).length ≤ 65536
theorem Log.index {p : ByteArray} {fs : List Fl} {Gs : List (List ByteArray)} {S U : List ByteArray} (h : Log p fs Gs S U) : ∃ (k : Nat) (hk : k < fs.length), fs[k] = lastF p Gs.length S U :=
  List.getElem_of_mem ((h.mem _).2 (.inr rfl))
theorem mem_modify_iff {fs : List Fl} (hu : Uniq fs) {k : Nat} (hk : k < fs.length) (g : Fl → Fl) (x : Fl) : x ∈ fs.modify k g ↔ x = g fs[k] ∨ (x ∈ fs ∧ x.name ≠ fs[k].name) := by
  constructor
  · intro hx
    obtain ⟨i, hi, e⟩ := List.getElem_of_mem hx
    rw [List.length_modify] at hi
    rw [List.getElem_modify] at e
    split at e
    · rename_i h1
      subst h1
      exact .inl e.symm
    · rename_i h1
      subst e
      exact .inr ⟨List.getElem_mem hi, fun e2 => h1 (hu.inj hi hk e2).symm⟩
  · rintro (rfl | ⟨h1, h2⟩)
    · have h3 : k < (fs.modify k g).length := by rw [List.length_modify]; exact hk
      have h4 : (fs.modify k g)[k] = g fs[k] := by rw [List.getElem_modify, if_pos rfl]
      rw [← h4]
      exact List.getElem_mem h3
    · obtain ⟨i, hi, rfl⟩ := List.getElem_of_mem h1
      have hik : k ≠ i := fun e => by subst e; exact h2 rfl
      have h3 : i < (fs.modify k g).length := by rw [List.length_modify]; exact hi
      have h4 : (fs.modify k g)[i] = fs[i] := by rw [List.getElem_modify, if_neg hik]
      rw [← h4]
      exact List.getElem_mem h3
theorem uniq_modify {fs : List Fl} (hu : Uniq fs) {k : Nat} (g : Fl → Fl) (hg : ∀ f, (g f).name = f.name) : Uniq (fs.modify k g) := by
  refine Uniq.of_inj fun i j hi hj e => ?_
  rw [List.length_modify] at hi hj
  rw [List.getElem_modify, List.getElem_modify] at e
  have e' : fs[i].name = fs[j].name := by
    split at e <;> split at e <;> simpa [hg] using e
  exact hu.inj hi hj e'
/-- Another last segment of the same name. -/
theorem Log.other {p : ByteArray} {fs : List Fl} {Gs : List (List ByteArray)} {S U S' U' : List ByteArray} (h : Log p fs Gs S U) {k : Nat} (hk : k < fs.length) (hl : fs[k] = lastF p Gs.length S U) (g : Fl → Fl) (hg : ∀ f, (g f).name = f.name)
    (hg2 : g (lastF p Gs.length S U) = lastF p Gs.length S' U') (hs : shortR (S' ++ U')) (hz : (catL (S' ++ U')).length ≤ 65536) : Log p (fs.modify k g) Gs S' U' := by
  refine ⟨uniq_modify h.uniq g hg, fun f => ?_, by rw [List.length_modify]; exact h.len, h.few, h.full, hs, hz⟩
  rw [mem_modify_iff h.uniq hk, hl, hg2, h.mem]
  constructor
  · rintro (h1 | ⟨h1 | h1, h2⟩)
    · exact .inr h1
    · exact .inl h1
    · rw [h1] at h2
      exact absurd rfl h2
  · rintro (⟨i, hi, rfl⟩ | h1)
    · refine .inr ⟨.inl ⟨i, hi, rfl⟩, fun e => ?_⟩
      have := nameOf_inj (by have := h.few; omega) (by have := h.few; omega) (show nameOf p i = nameOf p Gs.length from e)
      omega
    · exact .inl h1
theorem all_last (p : ByteArray) (n : Nat) (S U : List ByteArray) (h : (catL (S ++ U)).length ≤ 65536) : allF (lastF p n S U) = ofL (catL (S ++ U)) := by
  unfold allF lastF
  dsimp only
  rw [catL_append, List.length_append] at h
  rw [layB_ofL, puts_end _ _ (by omega), catL_append]
theorem putsF_snoc (r : ByteArray) : ∀ (U : List ByteArray) (e : Nat), putsF e (U ++ [r]) = putsF e U ++ [⟨((e + (catL U).length : Nat) : Int), frameB r⟩] := by
  intro U
  induction U with
  | nil => intro e; simp [putsF, catL]
  | cons s U ih =>
    intro e
    show (⟨(e : Int), frameB s⟩ : Wr) :: putsF (e + (frL s).length) (U ++ [r]) = _
    rw [ih, catL_cons, List.length_append]
    show _ = (⟨(e : Int), frameB s⟩ : Wr) :: putsF (e + (frL s).length) U ++ _
    rw [Nat.add_assoc]
    rfl
theorem putOp_change {p : ByteArray} {n e : Nat} {r : ByteArray} {fs : List Fl} (hp : prefB p = true) (he : e + (r.size + 9) ≤ 1048576) :
    changeF fs (putOp (nameOf p n) e (frameB r)) = if idxF (nameOf p n) fs < 0 then
      (if 32 ≤ fs.length then (fs, 4) else ((insertAt fs (placeF (nameOf p n) fs) (newFile (nameOf p n))).modify (placeF (nameOf p n) fs) (fun f => ⟨f.name, f.safe, f.opens ++ [⟨(e : Int), frameB r⟩]⟩), 0))
      else (fs.modify (idxF (nameOf p n) fs).toNat (fun f => ⟨f.name, f.safe, f.opens ++ [⟨(e : Int), frameB r⟩]⟩), 0) := by
  have hb : badOp (putOp (nameOf p n) e (frameB r)) = false := not_bad hp n (show (1 : Int) ≤ 1 by omega) (show (1 : Int) ≤ 4 by omega) rfl
  have hz := frameB_size r
  unfold changeF
  rw [hb, if_neg (by decide), if_pos (show (putOp (nameOf p n) e (frameB r)).kind = 1 from rfl)]
  unfold putF putOp
  dsimp only
  rw [if_neg (by omega), if_neg (by omega)]
theorem syncOp_change {p : ByteArray} {n k : Nat} {fs : List Fl} (hp : prefB p = true) (hu : Uniq fs) (hk : k < fs.length) (hn : fs[k].name = nameOf p n) :
    changeF fs (syncOp (nameOf p n)) = (fs.modify k (fun f => ⟨f.name, allF f, []⟩), 0) := by
  have hb : badOp (syncOp (nameOf p n)) = false := not_bad hp n (show (1 : Int) ≤ 2 by omega) (show (2 : Int) ≤ 4 by omega) rfl
  unfold changeF
  rw [hb, if_neg (by decide), show (syncOp (nameOf p n)).name = nameOf p n from rfl, show (syncOp (nameOf p n)).kind = 2 from rfl, idxF_at hu hk hn, if_neg (by omega), if_neg (by omega), if_pos rfl, Int.toNat_natCast]
theorem Log.sync {p : ByteArray} {fs : List Fl} {Gs : List (List ByteArray)} {S U : List ByteArray} (hp : prefB p = true) (h : Log p fs Gs S U) : ∃ gs, changeF fs (syncOp (nameOf p Gs.length)) = (gs, 0) ∧ Log p gs Gs (S ++ U) [] := by
  obtain ⟨k, hk, hl⟩ := h.index
  refine ⟨_, syncOp_change hp h.uniq hk (by rw [hl]; rfl), h.other hk hl _ (fun _ => rfl) ?_ (by rw [List.append_nil]; exact h.short) (by rw [List.append_nil]; exact h.size)⟩
  rw [all_last p _ S U h.size]
  rfl
theorem Log.put {p : ByteArray} {fs : List Fl} {Gs : List (List ByteArray)} {S U : List ByteArray} {r : ByteArray} (hp : prefB p = true) (h : Log p fs Gs S U) (hr : r.size ≤ 131072) (hz : (catL (S ++ U)).length + (r.size + 9) ≤ 65536) :
    ∃ gs, changeF fs (putOp (nameOf p Gs.length) (catL (S ++ U)).length (frameB r)) = (gs, 0) ∧ Log p gs Gs S (U ++ [r]) := by
  obtain ⟨k, hk, hl⟩ := h.index
  refine ⟨_, ?_, h.other hk hl (fun f => ⟨f.name, f.safe, f.opens ++ [⟨(((catL (S ++ U)).length : Nat) : Int), frameB r⟩]⟩) (fun _ => rfl) ?_ ?_ ?_⟩
  · rw [putOp_change hp (by omega), idxF_at h.uniq hk (by rw [hl]; rfl), if_neg (by omega), Int.toNat_natCast]
  · unfold lastF
    dsimp only
    rw [putsF_snoc, catL_append, List.length_append]
  · intro x hx
    rw [← List.append_assoc] at hx
    rcases List.mem_append.1 hx with hx | hx
    · exact h.short x hx
    · rw [List.mem_singleton] at hx; rw [hx]; exact hr
  · rw [← List.append_assoc, catL_append, List.length_append, catL_one, frL_length]; omega
theorem insert_modify (fs : List Fl) (k : Nat) (hk : k ≤ fs.length) (f : Fl) (g : Fl → Fl) : (insertAt fs k f).modify k g = fs.take k ++ g f :: fs.drop k := by
  unfold insertAt
  have hl : (fs.take k).length = k := by rw [List.length_take]; omega
  refine List.ext_getElem? fun i => ?_
  rw [List.getElem?_modify]
  rcases Nat.lt_trichotomy i k with h1 | h1 | h1
  · rw [List.getElem?_append_left (by omega), List.getElem?_append_left (by omega)]
    simp [show ¬ k = i by omega]
  · subst h1
    rw [List.getElem?_append_right (by omega), List.getElem?_append_right (by omega), hl]
    simp
  · rw [List.getElem?_append_right (by omega), List.getElem?_append_right (by omega), hl]
    obtain ⟨d, hd⟩ : ∃ d, i - k = d + 1 := ⟨i - k - 1, by omega⟩
    rw [hd]
    simp [show ¬ k = i by omega]
theorem placeF_le (x : ByteArray) (fs : List Fl) : placeF x fs ≤ fs.length := by
  unfold placeF
  split
  · rename_i i h
    obtain ⟨h1, _⟩ := List.findIdx?_eq_some_iff_getElem.1 h
    omega
  · exact Nat.le_refl _
theorem idxF_none {fs : List Fl} {x : ByteArray} (h : ∀ f ∈ fs, f.name ≠ x) : idxF x fs < 0 := by
  unfold idxF
  rw [List.findIdx?_eq_none_iff.2 (fun f hf => by
    have := h f hf
    rw [Bool.eq_false_iff]
    exact fun e => this (sameN_iff.1 e))]
  decide
/-- A file that is new. -/
theorem put_new {p : ByteArray} {n : Nat} {r : ByteArray} {fs : List Fl} (hp : prefB p = true) (hr : r.size ≤ 131072) (hl : fs.length < 32) (hn : ∀ f ∈ fs, f.name ≠ nameOf p n) (hu : Uniq fs) :
    ∃ gs, changeF fs (putOp (nameOf p n) 0 (frameB r)) = (gs, 0) ∧ Uniq gs ∧ gs.length = fs.length + 1 ∧ ∀ f, f ∈ gs ↔ f ∈ fs ∨ f = lastF p n [] [r] := by
  have hk := placeF_le (nameOf p n) fs
  have hf : (⟨(newFile (nameOf p n)).name, (newFile (nameOf p n)).safe, (newFile (nameOf p n)).opens ++ [⟨((0 : Nat) : Int), frameB r⟩]⟩ : Fl) = lastF p n [] [r] := rfl
  refine ⟨_, by rw [putOp_change hp (by omega), if_pos (idxF_none hn), if_neg (by omega)], ?_⟩
  rw [insert_modify _ _ hk, hf]
  refine ⟨?_, ?_, fun f => ?_⟩
  · have h1 : (lastF p n [] [r]).name = nameOf p n := rfl
    unfold Uniq at hu ⊢
    rw [← List.take_append_drop (placeF (nameOf p n) fs) fs, List.pairwise_append] at hu
    obtain ⟨u1, u2, u3⟩ := hu
    rw [List.pairwise_append]
    refine ⟨u1, List.pairwise_cons.2 ⟨fun g hg => ?_, u2⟩, fun a ha b hb => ?_⟩
    · rw [h1]; exact fun e => hn g (List.mem_of_mem_drop hg) e.symm
    · rcases List.mem_cons.1 hb with rfl | hb
      · rw [h1]; exact hn a (List.mem_of_mem_take ha)
      · exact u3 a ha b hb
  · rw [List.length_append, List.length_cons, List.length_take, List.length_drop]; omega
  · rw [List.mem_append, List.mem_cons]
    constructor
    · rintro (h1 | h1 | h1)
      · exact .inl (List.mem_of_mem_take h1)
      · exact .inr h1
      · exact .inl (List.mem_of_mem_drop h1)
    · rintro (h1 | h1)
      · rw [← List.take_append_drop (placeF (nameOf p n) fs) fs, List.mem_append] at h1
        exact h1.elim .inl fun h => .inr (.inr h)
      · exact .inr (.inl h1)
theorem Log.first {p : ByteArray} {r : ByteArray} (hp : prefB p = true) (hr : r.size ≤ 40000) : ∃ gs, changeF [] (putOp (nameOf p 0) 0 (frameB r)) = (gs, 0) ∧ Log p gs [] [] [r] := by
  obtain ⟨gs, h1, h2, h3, h4⟩ := put_new (n := 0) (fs := []) hp (show r.size ≤ 131072 by omega) (by simp) (fun f hf => by cases hf) List.Pairwise.nil
  refine ⟨gs, h1, h2, fun f => ?_, h3, by simp, (fun G hG => by cases hG), fun x hx => ?_, ?_⟩
  · rw [h4]
    simp
  · rw [List.nil_append, List.mem_singleton] at hx; rw [hx]; omega
  · rw [List.nil_append, catL_one, frL_length]; omega
theorem Log.fresh {p : ByteArray} {fs : List Fl} {Gs : List (List ByteArray)} {S : List ByteArray} {r : ByteArray} (hp : prefB p = true) (h : Log p fs Gs S []) (hr : r.size ≤ 40000) (hS : 0 < S.length) (hG : Gs.length < 30) :
    ∃ gs, changeF fs (putOp (nameOf p (Gs.length + 1)) 0 (frameB r)) = (gs, 0) ∧ Log p gs (Gs ++ [S]) [] [r] := by
  have hne : ∀ f ∈ fs, f.name ≠ nameOf p (Gs.length + 1) := fun f hf e => by
    rcases (h.mem f).1 hf with ⟨i, hi, rfl⟩ | rfl
    · have := nameOf_inj (by omega) (by omega) (show nameOf p i = _ from e); omega
    · have := nameOf_inj (by omega) (by omega) (show nameOf p Gs.length = _ from e); omega
  obtain ⟨gs, h1, h2, h3, h4⟩ := put_new (n := Gs.length + 1) hp (show r.size ≤ 131072 by omega) (by have := h.len; omega) hne h.uniq
  have hsh : shortR S := by have := h.short; rw [List.append_nil] at this; exact this
  have hsz : (catL S).length ≤ 65536 := by have := h.size; rw [List.append_nil] at this; exact this
  refine ⟨gs, h1, h2, fun f => ?_, by rw [h3, h.len, List.length_append]; rfl, by rw [List.length_append, List.length_singleton]; omega, fun G hG' => ?_, fun x hx => ?_, ?_⟩
  · have hgl : (Gs ++ [S]).length = Gs.length + 1 := by rw [List.length_append]; rfl
    rw [h4, h.mem, show lastF p (Gs ++ [S]).length [] [r] = lastF p (Gs.length + 1) [] [r] by rw [hgl]]
    constructor
    · rintro ((⟨i, hi, rfl⟩ | rfl) | h5)
      · exact .inl ⟨i, by omega, by rw [List.getElem_append_left hi]⟩
      · exact .inl ⟨Gs.length, by omega, by rw [List.getElem_append_right (Nat.le_refl _)]; simp [fullF, lastF, putsF]⟩
      · exact .inr h5
    · rintro (⟨i, hi, rfl⟩ | h5)
      · rcases Nat.lt_or_ge i Gs.length with h6 | h6
        · exact .inl (.inl ⟨i, h6, by rw [List.getElem_append_left h6]⟩)
        · have h7 : i = Gs.length := by omega
          subst h7
          exact .inl (.inr (by rw [List.getElem_append_right (Nat.le_refl _)]; simp [fullF, lastF, putsF]))
      · exact .inr h5
  · rcases List.mem_append.1 hG' with h5 | h5
    · exact h.full G h5
    · rw [List.mem_singleton] at h5; rw [h5]; exact ⟨hS, hsh, hsz⟩
  · rw [List.nil_append, List.mem_singleton] at hx; rw [hx]; omega
  · rw [List.nil_append, catL_one, frL_length]; omega
end Go.Proofs.Ytkecjopojnllnaa
