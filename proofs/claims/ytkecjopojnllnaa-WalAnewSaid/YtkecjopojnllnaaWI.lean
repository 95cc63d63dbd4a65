/- Behind a crash and the mending plan the disk is a log's again (plain); the calls of WalGoesOn. -/
import Derived.Test.YtkecjopojnllnaaWH
namespace Go.Proofs.Ytkecjopojnllnaa
open Go.RowKit Go.Deep Go.Joins

theorem log_left {p : ByteArray} {fs : List Fl} {Gs : List (List ByteArray)} {S U : List ByteArray} (h : Log p fs Gs S U) : Left2 p fs Gs (S ++ U) [] :=
  ⟨h.uniq, fun m b => by rw [h.has, List.append_nil], .inl rfl, fun G hG => ⟨(h.full G hG).1, (h.full G hG).2.1⟩, h.short, h.few⟩
/-- All files are segments without open writes. -/
def Plain (p : ByteArray) (fs : List Fl) : Prop := ∀ f ∈ fs, f.opens = [] ∧ ∃ n, numB p f.name = some n
theorem plain_is {p : ByteArray} {f : Fl} {n : Nat} (h1 : f.opens = []) (h2 : numB p f.name = some n) : f = ⟨nameOf p n, allF f, []⟩ := by
  obtain ⟨nm, sf, op⟩ := f
  dsimp only at h1 h2
  subst h1
  rw [(numB_name.1 h2).1]
  rfl
theorem log_of_left {p : ByteArray} {fs : List Fl} {Gs : List (List ByteArray)} {R : List ByteArray} (h : Left2 p fs Gs R []) (hp : Plain p fs) (hl : fs.length = Gs.length + 1) (hG : ∀ G ∈ Gs, (catL G).length ≤ 65536) (hR : (catL R).length ≤ 65536) : Log p fs Gs R [] := by
  refine ⟨h.uniq, fun f => ?_, hl, h.few, fun G hg => ⟨(h.full G hg).1, (h.full G hg).2, hG G hg⟩, by rw [List.append_nil]; exact h.short, by rw [List.append_nil]; exact hR⟩
  constructor
  · intro hf
    obtain ⟨h1, n, h2⟩ := hp f hf
    have e := plain_is h1 h2
    rcases (h.has n (allF f)).1 ⟨f, hf, h2, rfl⟩ with ⟨h3, h4⟩ | ⟨h3, h4⟩
    · exact .inl ⟨n, h3, by rw [e, h4]; rfl⟩
    · refine .inr ?_
      rw [e, h4, h3, List.append_nil]
      rfl
  · have key : ∀ n b, Has p fs n b → (⟨nameOf p n, b, []⟩ : Fl) ∈ fs := fun n b ⟨g, hg, h1, h2⟩ => by
      have e := plain_is (hp g hg).1 h1
      rw [h2] at e
      rw [← e]
      exact hg
    rintro (⟨i, hi, rfl⟩ | rfl)
    · exact key i _ ((h.has i _).2 (.inl ⟨hi, rfl⟩))
    · have := key Gs.length _ ((h.has _ _).2 (.inr ⟨rfl, rfl⟩))
      rw [List.append_nil] at this
      exact this
theorem crash_plain {p : ByteArray} {l : List Rw} {Gs : List (List ByteArray)} {S U : List ByteArray} (h : Log p (l.map core) Gs S U) (ft : List Ft) : Plain p ((crashRows l ft).map core) ∧ ((crashRows l ft).map core).length = Gs.length + 1 := by
  have hlen : ((crashRows l ft).map core).length = l.length := by unfold crashRows; rw [List.length_map, List.length_mapIdx]
  refine ⟨fun f hf => ?_, by rw [hlen, ← h.len, List.length_map]⟩
  obtain ⟨i, hi, e⟩ := List.getElem_of_mem hf
  have hil : i < l.length := by omega
  have h1 := crash_core l ft i hil
  rw [List.getElem?_eq_getElem hi] at h1
  have h2 := Option.some.inj h1
  rw [e] at h2
  subst h2
  have hf := h.few
  refine ⟨rfl, ?_⟩
  rcases (h.mem (core l[i])).1 (List.mem_map_of_mem (List.getElem_mem hil)) with ⟨t, ht, e⟩ | e
  · exact ⟨t, numB_name.2 ⟨congrArg Fl.name e, by omega⟩⟩
  · exact ⟨Gs.length, numB_name.2 ⟨congrArg Fl.name e, by omega⟩⟩
theorem mend_st {p : ByteArray} {l l' : List Rw} {Q : List ByteArray} {c m : Nat} {ft : List Ft} {r : List ByteArray} {pl : List DOp} (hp : prefB p = true) (h : WSt p (l.map core) Q c m) (hl' : l'.map core = (crashRows l ft).map core) (ho : OpenIs p l' r pl) :
    ∃ gs n s, Exec (l'.map core) pl gs ∧ WEnd p gs r m n s := by
  rcases h with ⟨h1, h2, h3⟩ | ⟨Gs, S, U, hl, hq, hc, hgm⟩
  · have hnil : l = [] := List.map_eq_nil_iff.1 h1
    subst hnil
    have hl0 : l' = [] := List.map_eq_nil_iff.1 hl'
    subst hl0
    obtain ⟨L, hL, hLm, hLo⟩ := ho
    have hLn : L = [] := by
      cases L with
      | nil => rfl
      | cons n L => exact absurd ((hLm n).1 List.mem_cons_self) (fun ⟨x, hx, _⟩ => by cases hx)
    subst hLn
    have : (([] : List ByteArray), ([] : List DOp)) = (r, pl) := hLo
    injection this with h4 h5
    subst h4 h5
    exact ⟨[], 0, 0, Exec.nil _, .inl ⟨rfl, rfl, rfl, rfl⟩⟩
  · obtain ⟨j, T, hleft⟩ := crash_log hl ft
    obtain ⟨hpl, hlen⟩ := crash_plain hl ft
    rw [← hl'] at hleft hpl hlen
    have hr := hleft.told ho
    have hG : ∀ G ∈ Gs, (catL G).length ≤ 65536 := fun G hg => (hl.full G hg).2.2
    have hR : (catL (S ++ U.take j)).length ≤ 65536 := by
      have h1 := hl.size
      rw [← List.take_append_drop j U, ← List.append_assoc, catL_append, List.length_append] at h1
      omega
    obtain ⟨k, hk, k1, k2, k3⟩ := ((hleft.has Gs.length _).2 (.inr ⟨rfl, rfl⟩)).at
    have hfew := hl.few
    have hq' : Gs.flatten ++ (S ++ U.take j ++ []) = r := by rw [hr, List.append_nil]
    rcases hleft.plan ho with ⟨h4, rfl⟩ | ⟨rfl, h5, rfl⟩
    · by_cases hT : T = []
      · subst hT
        rw [if_pos rfl]
        exact ⟨_, _, _, Exec.nil _, .inr ⟨Gs, _, [], log_of_left hleft hpl hlen hG hR, hq', hgm, h4, rfl, rfl⟩⟩
      · rw [if_neg hT]
        have hcut := cut_file (c := (catL (S ++ U.take j)).length) hp hleft.uniq hk k1 (by rw [k3, ofL_size, List.length_append]; omega)
        have hnm : (⟨nameOf p Gs.length, (allF (l'.map core)[k]).extract 0 (catL (S ++ U.take j)).length, []⟩ : Fl).name = nameOf p Gs.length := rfl
        have hal : allF (⟨nameOf p Gs.length, (allF (l'.map core)[k]).extract 0 (catL (S ++ U.take j)).length, []⟩ : Fl) = ofL (catL (S ++ U.take j)) := by
          show layB ((allF (l'.map core)[k]).extract 0 (catL (S ++ U.take j)).length) [] = _
          rw [layAll_nil, k3, ext_ofL, List.drop_zero, Nat.sub_zero, List.take_left]
        refine ⟨_, _, _, Exec.one hcut, .inr ⟨Gs, S ++ U.take j, [], log_of_left ⟨uniq_set hleft.uniq hk (by rw [k1]), fun m b => ?_, .inl rfl, hleft.full, hleft.short, hleft.few⟩ (fun f hf => ?_) (by rw [List.length_set]; exact hlen) hG hR, hq', hgm, h4, rfl, rfl⟩⟩
        · rw [has_set hleft.uniq hk k1 k2 hnm, hleft.has, hal, List.append_nil]
          constructor
          · rintro (h6 | ⟨h6, h7 | ⟨h7, _⟩⟩)
            · exact .inr h6
            · exact .inl h7
            · exact absurd h7 h6
          · rintro (⟨h6, h7⟩ | h6)
            · exact .inr ⟨by omega, .inl ⟨h6, h7⟩⟩
            · exact .inl h6
        · rcases List.mem_or_eq_of_mem_set hf with h6 | h6
          · exact hpl f h6
          · rw [h6]; exact ⟨rfl, Gs.length, numB_name.2 ⟨rfl, by omega⟩⟩
    · have hd := drop_file hp hleft.uniq hk k1
      have hz : (l'.map core).eraseIdx k = [] := by
        apply List.length_eq_zero_iff.1
        rw [List.length_eraseIdx_of_lt hk, hlen]
        rfl
      refine ⟨_, 0, 0, Exec.one hd, .inl ⟨hz, ?_, rfl, rfl⟩⟩
      rw [hr, h5]
      rfl
theorem open_end {p : ByteArray} {l : List Rw} {Q : List ByteArray} {m n s : Nat} {r : List ByteArray} {pl : List DOp} (h : WEnd p (l.map core) Q m n s) (ho : OpenIs p l r pl) : r = Q ∧ pl = [] := by
  rcases h with ⟨h1, rfl, _⟩ | ⟨Gs, S, U, hl, hq, _, hpos, _⟩
  · have hl0 : l = [] := List.map_eq_nil_iff.1 h1
    subst hl0
    obtain ⟨L, hL, hLm, hLo⟩ := ho
    have hLn : L = [] := by
      cases L with
      | nil => rfl
      | cons n L => exact absurd ((hLm n).1 List.mem_cons_self) (fun ⟨x, hx, _⟩ => by cases hx)
    subst hLn
    have : (([] : List ByteArray), ([] : List DOp)) = (r, pl) := hLo
    injection this with h4 h5
    exact ⟨h4.symm, h5.symm⟩
  · have hleft := log_left hl
    have hr := hleft.told ho
    rw [hq] at hr
    refine ⟨hr, ?_⟩
    rcases hleft.plan ho with ⟨_, h5⟩ | ⟨h5, h6, _⟩
    · rw [h5, if_pos rfl]
    · rw [← hq, h5, h6] at hpos
      exact absurd hpos (by simp)
end Go.Proofs.Ytkecjopojnllnaa
