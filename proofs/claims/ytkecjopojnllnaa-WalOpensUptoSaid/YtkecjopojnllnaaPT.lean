/- The disk of the reference, and what of the disk the log calls (my own, from the seat of the disk): T. -/
import Derived.Test.YtkecjopojnllnaaPR
namespace Go.Proofs.Ytkecjopojnllnaa
open Go.RowKit Go.Deep Go.Joins
structure DOp where
  kind : Int
  name : ByteArray
  pos : Int
  bytes : ByteArray
/-- All bytes of a file on the plain side. -/
def allF (f : Fl) : ByteArray := layB f.safe f.opens
def idxF (x : ByteArray) (fs : List Fl) : Int := match fs.findIdx? (fun f => sameN f.name x) with | some i => i | none => -1
def placeF (x : ByteArray) (fs : List Fl) : Nat := match fs.findIdx? (fun f => above f.name x) with | some i => i | none => fs.length
def putF (fs : List Fl) (o : DOp) : List Fl × Int :=
  if o.pos < 0 then (fs, 1)
  else if 1048576 < o.pos ∨ (o.bytes.size : Int) > 1048576 - o.pos then (fs, 2)
  else if idxF o.name fs < 0 then
    (if 32 ≤ fs.length then (fs, 4) else ((insertAt fs (placeF o.name fs) (newFile o.name)).modify (placeF o.name fs) (fun f => ⟨f.name, f.safe, f.opens ++ [⟨o.pos, o.bytes⟩]⟩), 0))
  else (fs.modify (idxF o.name fs).toNat (fun f => ⟨f.name, f.safe, f.opens ++ [⟨o.pos, o.bytes⟩]⟩), 0)
def badOp (o : DOp) : Bool := decide (o.kind < 1) || decide (4 < o.kind) || !nameB o.name
/-- The operation on the plain side: the files behind it, and the error. -/
def changeF (fs : List Fl) (o : DOp) : List Fl × Int :=
  if badOp o then (fs, 1)
  else if o.kind = 1 then putF fs o
  else if idxF o.name fs < 0 then (fs, 20)
  else if o.kind = 2 then (fs.modify (idxF o.name fs).toNat (fun f => ⟨f.name, allF f, []⟩), 0)
  else if o.kind = 3 then
    match fs[(idxF o.name fs).toNat]? with
    | none => (fs, 20)
    | some f => if o.pos < 0 ∨ ((allF f).size : Int) < o.pos then (fs, 1) else (fs.set (idxF o.name fs).toNat ⟨f.name, (allF f).extract 0 o.pos.toNat, []⟩, 0)
  else (fs.eraseIdx (idxF o.name fs).toNat, 0)
theorem findIdx_core (l : List Rw) (p : Rw → Bool) (q : Fl → Bool) (h : ∀ r, p r = q (core r)) : l.findIdx? p = (l.map core).findIdx? q := by
  induction l with
  | nil => rfl
  | cons x l ih => rw [List.findIdx?_cons, List.map_cons, List.findIdx?_cons, ih, h]
theorem idx_core (x : ByteArray) (l : List Rw) : idx (sameName x) l = idxF x (l.map core) := by
  unfold idx idxF; rw [findIdx_core l (sameName x) (fun f => sameN f.name x) (fun r => rfl)]; cases (l.map core).findIdx? (fun f => sameN f.name x) <;> rfl
theorem place_core (x : ByteArray) (l : List Rw) : (placeOf x l).toNat = placeF x (l.map core) := by
  unfold placeOf placeF
  rw [← findIdx_core l (aboveName x) (fun f => above f.name x) (fun r => rfl)]
  rcases idx_cases (aboveName x) l with ⟨_, hi⟩ | ⟨k, hk, hi, _⟩
  · rw [if_pos (by omega)]
    have : l.findIdx? (aboveName x) = none := by
      unfold idx at hi
      split at hi
      · omega
      · assumption
    rw [this]; simp
  · rw [if_neg (by omega), hi]
    have : l.findIdx? (aboveName x) = some k := by
      unfold idx at hi
      split at hi
      · rename_i i h; rw [h]; congr 1; omega
      · omega
    rw [this]; simp
/-- What an operation leaves. -/
def Done (w : World) (B pb : Nat) (fs : List Fl) (er : Int) (e : Ending) (w' : World) : Prop :=
  e = .returned (.int .i64 er) ∧ ∃ v' l', w'.heap[pb]? = some (.cells #[v'] 24 (0, 0)) ∧ OwnE w' B v' l' ∧ l'.map core = fs ∧ Only B pb w w'
theorem done_same {w w' : World} {B pb : Nat} {v : Value} {l : List Rw} {fs : List Fl} {er : Int} {e : Ending} (he : e = .returned (.int .i64 er)) (hp : w.heap[pb]? = some (.cells #[v] 24 (0, 0))) (hD : OwnE w B v l) (hl : l.map core = fs) (hB : B ≤ w.heap.size)
    (hb : Below w.heap.size w w') : Done w B pb fs er e w' :=
  ⟨he, v, l, (hb.block pb (Array.getElem?_eq_some_iff.1 hp).1).trans hp, hD.below hb, hl, only_of_below hb hB⟩
theorem done_from {w W : World} {B pb : Nat} {fs : List Fl} {er : Int} {e : Ending} {w' : World} (h : Done W B pb fs er e w') (hb : Below w.heap.size w W) (hB : B ≤ w.heap.size) : Done w B pb fs er e w' := by
  obtain ⟨he, v', l', h1, h2, h3, h4⟩ := h
  exact ⟨he, v', l', h1, h2, h3, (only_of_below hb hB).trans h4⟩
/-- The sizes under which an operation is done as it should. -/
structure Fits (l : List Rw) : Prop where
  files : (l.length + 1) * 56 ≤ 140737488355328
  opens : ∀ r ∈ l, (r.opens.length + 1) * 24 ≤ 140737488355328
  okay : Okay l
/-- Two stores: other safe bytes, and no open write. -/
theorem safe_done {w w2 : World} {pb B g cap n k : Nat} {v : Value} {l : List Rw} (hk : k < l.length) (hD : OwnE w2 B (.slice (some ⟨g, 0, none⟩) n cap) l) (hv : v = .slice (some ⟨g, 0, none⟩) n cap)
    (hpb : w2.heap[pb]? = some (.cells #[v] 24 (0, 0))) (ho : Only B pb w w2) (s : ByteArray) :
    let w' := (w2.setCell ⟨g, k * 3 + 1, none⟩ (.string s)).setCell ⟨g, k * 3 + 2, none⟩ (.slice none 0 0)
    ∃ v' l', w'.heap[pb]? = some (.cells #[v'] 24 (0, 0)) ∧ OwnE w' B v' l' ∧ l'.map core = (l.map core).set k ⟨l[k].name, s, []⟩ ∧ Only B pb w w' := by
  intro w'
  have hn : n = l.length := by
    rcases hD.1.2 with ⟨h, _⟩ | ⟨_, _, _, h, _⟩
    · cases h
    · injection h
  subst hn
  have hgB : B ≤ g := (hD.1.lt g rfl).1
  have hgp : g ≠ pb := fun e => not_at hD.1 hpb (by decide) (by rw [← e]; rfl)
  have hst := ((hD.1.stored (k * 3 + 1) (.string s)).1.stored (k * 3 + 2) (.slice none 0 0)).1
  have hrow : ((rowCells l).set (k * 3 + 1) (.string s)).set (k * 3 + 2) (.slice none 0 0) = rowCells (l.set k ⟨l[k].name, s, .slice none 0 0, []⟩) := by
    rw [← rowCells_set l k ⟨l[k].name, s, .slice none 0 0, []⟩ hk]
    congr 2
    apply List.ext_getElem?
    intro j
    rw [List.getElem?_set]
    split
    · rename_i e
      subst e
      rw [(rowCells_get l k hk).1, if_pos (by rw [rowCells_length]; omega)]
    · rfl
  rw [hrow] at hst
  have hoth : ∀ r ∈ l, w'.ownsRow B 76 2 r.ov r.opens.length (wrCells r.opens) := fun r hr => by
    have h1 := hD.2.1 r hr
    have h2 := owns_other h1 (fun e => rows_apart h1 hD.1 (by decide) e rfl) (k * 3 + 1) (.string s)
    exact owns_other h2 (fun e => rows_apart h1 hD.1 (by decide) e rfl) _ _
  refine ⟨v, l.set k ⟨l[k].name, s, .slice none 0 0, []⟩, ?_, ?_, ?_, ?_⟩
  · rw [heap_setCell_other _ _ _ _ (fun e => hgp e.symm), heap_setCell_other _ _ _ _ (fun e => hgp e.symm)]; exact hpb
  · rw [hv]
    exact hD.set k hk _ (fun r hr _ => hoth r hr) (World.ownsRow_nil _ _ _ _) hst fun b hb => by cases hb
  · apply List.ext_getElem?
    intro j
    rw [List.getElem?_map, List.getElem?_set, List.getElem?_set, List.getElem?_map]
    by_cases e : k = j
    · subst e
      simp [hk, core]
    · simp [e]
  · exact (ho.trans (only_setCell _ _ _ _ (.inl hgB))).trans (only_setCell _ _ _ _ (.inl hgB))
/-- A file taken out. -/
theorem drop_done {w w2 : World} {pb B n c k : Nat} {q : Option Addr} {v : Value} {l : List Rw} (hk : k < l.length) (ho : w2.ownsRow B 58 3 (.slice q n c) (l.length - 1) (rowCells (l.eraseIdx k))) (hop : ∀ r ∈ l, w2.ownsRow B 76 2 r.ov r.opens.length (wrCells r.opens))
    (hnd : (l.filterMap fun r => r.ov.ownBlock).Nodup) (hpb : w2.heap[pb]? = some (.cells #[v] 24 (0, 0))) (hon : Only B pb w w2) :
    let w' := w2.setCell ⟨pb, 0, none⟩ (.slice q n c)
    ∃ v' l', w'.heap[pb]? = some (.cells #[v'] 24 (0, 0)) ∧ OwnE w' B v' l' ∧ l'.map core = (l.map core).eraseIdx k ∧ Only B pb w w' := by
  intro w'
  refine ⟨.slice q n c, l.eraseIdx k, ?_, ⟨?_, fun r hr => ?_, ?_⟩, ?_, hon.trans (only_setCell _ _ _ _ (.inr rfl))⟩
  · rw [heap_setCell_same w2 pb 0 _ 24 _ hpb]; rfl
  · rw [List.length_eraseIdx, if_pos hk]; exact owns_other ho (not_at ho hpb (by decide)) _ _
  · have h := hop r (List.mem_of_mem_eraseIdx hr)
    exact owns_other h (not_at h hpb (by decide)) _ _
  · exact hnd.sublist ((List.eraseIdx_sublist l k).filterMap _)
  · rw [List.eraseIdx_eq_take_drop_succ, List.eraseIdx_eq_take_drop_succ, List.map_append, List.map_take, List.map_drop]
end Go.Proofs.Ytkecjopojnllnaa
