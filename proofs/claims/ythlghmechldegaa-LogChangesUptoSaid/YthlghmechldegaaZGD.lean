/- What Accept leaves. -/
import Derived.Test.YthlghmechldegaaZF
namespace Go.Proofs.Ythlghmechldegaa
open Go.RowKit Go.Deep Go.Joins
set_option maxRecDepth 100000
/-- The list behind the first entries. -/
def accN (base : Int) (L : List En) (prev : Int) (E : List En) : Nat → List En
  | 0 => L
  | j + 1 => match E[j]? with
    | some e => layF base (accN base L prev E j) (prev + 1 + j) e
    | none => accN base L prev E j
theorem accN_next (base : Int) (L : List En) (prev : Int) (E : List En) (j : Nat) (h : j < E.length) : accN base L prev E (j + 1) = layF base (accN base L prev E j) (prev + 1 + j) E[j] := by
  simp only [accN, List.getElem?_eq_getElem h]
theorem layF_len (base : Int) (M : List En) (i : Int) (e : En) (h : i ≤ base + M.length + 1) : i ≤ base + (layF base M i e).length ∧ (layF base M i e).length ≤ M.length + 1 := by
  unfold layF
  split
  · rename_i h1
    have : (0 : Int) ≤ M.length := by omega
    exact ⟨by omega, by omega⟩
  · split
    · split
      · omega
      · simp
        omega
    · simp
      omega
theorem layF_mem (base : Int) (M : List En) (i : Int) (e x : En) (h : x ∈ layF base M i e) : x ∈ M ∨ x = e := by
  unfold layF at h
  split at h
  · exact .inl h
  · split at h
    · split at h
      · exact .inl h
      · rcases List.mem_append.1 h with h | h
        · exact .inl (List.mem_of_mem_take h)
        · exact .inr (by simpa using h)
    · rcases List.mem_append.1 h with h | h
      · exact .inl (List.mem_of_mem_take h)
      · exact .inr (by simpa using h)
theorem accN_len (base : Int) (L : List En) (prev : Int) (E : List En) (h : prev ≤ base + L.length) (j : Nat) (hj : j ≤ E.length) : prev + j ≤ base + (accN base L prev E j).length ∧ (accN base L prev E j).length ≤ L.length + j := by
  induction j with
  | zero => simp only [accN]; omega
  | succ j ih =>
    obtain ⟨h1, h2⟩ := ih (by omega)
    rw [accN_next _ _ _ _ _ (by omega)]
    obtain ⟨h3, h4⟩ := layF_len base (accN base L prev E j) (prev + 1 + j) E[j] (by omega)
    omega
theorem accN_mem (base : Int) (L : List En) (prev : Int) (E : List En) (j : Nat) (hj : j ≤ E.length) (x : En) (h : x ∈ accN base L prev E j) : x ∈ L ∨ x ∈ E := by
  induction j with
  | zero => exact .inl h
  | succ j ih =>
    rw [accN_next _ _ _ _ _ (by omega)] at h
    rcases layF_mem _ _ _ _ _ h with h | h
    · exact ih (by omega) h
    · exact .inr (by rw [h]; exact List.getElem_mem _)
/-- Does Accept take the entries? -/
def acB (l : Lg) (L : List En) (prev pt : Int) (E : List En) : Bool := folB l L prev pt && (decide (E.length ≤ 512) && chkB l (accN l.base L prev E E.length))
/-- What Accept leaves. -/
def AccR (W W' : World) (l r : Lg) (M : List En) (x : Bool) : Prop := (x = true ∧ ∃ v, r = { l with lv := v } ∧ OwnE W' W.heap.size v M) ∨ (x = false ∧ r = zeroLg)
theorem results_lg3 {fn : Func} {p u q : Tmp} (h : fn.results = #[.cell p 27, .tmp u, .tmp q]) (tmps : Array Value) (w : World) (g : Nat) (l : Lg) (v x : Value) (hp : tmps.getD p undef = .pointer (some ⟨g, 0, none⟩)) (hg : LBox w g l) (hv : tmps.getD u undef = v) (hx : tmps.getD q undef = x) : (results fn tmps).run Try.prog w = .ok (.tuple #[lgV l, v, x]) w := by
  have hp' : tmps[p]?.getD undef = .pointer (some ⟨g, 0, none⟩) := by simpa using hp
  have hv' : tmps[u]?.getD undef = v := by simpa using hv
  have hx' : tmps[q]?.getD undef = x := by simpa using hx
  simp [results, h, hp', hv', hx', asAddr, hg.result, Result.andThen]
theorem folB_yes {l : Lg} {L : List En} {prev pt : Int} (h : folB l L prev pt = true) : prev ≤ (lastV l L).1 ∧ prev ≤ 1099511627776 := by
  unfold folB at h
  split at h
  · cases h
  · split at h
    · cases h
    · omega
theorem lastV_len (l : Lg) (L : List En) : (lastV l L).1 = l.base + L.length := by
  unfold lastV
  split
  · rfl
  · simp; omega
theorem chkB_lv (base bt : Int) (s : Nat → Bool) (v u : Value) (L : List En) : chkB ⟨base, bt, s, v⟩ L = chkB ⟨base, bt, s, u⟩ L := rfl
end Go.Proofs.Ythlghmechldegaa
