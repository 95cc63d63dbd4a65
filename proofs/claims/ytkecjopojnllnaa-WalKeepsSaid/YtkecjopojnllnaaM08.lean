/- The disk of the reference, and what of the disk the log calls (my own, from the seat of the disk): Ra. -/
import Derived.Test.YtkecjopojnllnaaM07
namespace Go.Proofs.Ytkecjopojnllnaa
open Go.RowKit Go.Deep Go.Joins
structure DOp where
  kind : Int
  name : ByteArray
  pos : Int
  bytes : ByteArray
/-- All bytes of a file on the plain side. -/
def allF (f : Fl) : ByteArray := layB f.safe f.opens
def idxF (x : ByteArray) (fs : List Fl) : Int := match fs.findIdx? (fun f => sameN f.name x) with | some i => i | none => -1
def placeF (x : ByteArray) (fs : List Fl) : Nat := match fs.findIdx? (fun f => above f.name x) with | some i => i | none => fs.length
def putF (fs : List Fl) (o : DOp) : List Fl × Int :=
  if o.pos < 0 then (fs, 1)
  else if 1048576 < o.pos ∨ (o.bytes.size : Int) > 1048576 - o.pos then (fs, 2)
  else if idxF o.name fs < 0 then
    (if 32 ≤ fs.length then (fs, 4) else ((insertAt fs (placeF o.name fs) (newFile o.name)).modify (placeF o.name fs) (fun f => ⟨f.name, f.safe, f.opens ++ [⟨o.pos, o.bytes⟩]⟩), 0))
  else (fs.modify (idxF o.name fs).toNat (fun f => ⟨f.name, f.safe, f.opens ++ [⟨o.pos, o.bytes⟩]⟩), 0)
def badOp (o : DOp) : Bool := decide (o.kind < 1) || decide (4 < o.kind) || !nameB o.name
/-- The operation on the plain side: the files behind it, and the error. -/
def changeF (fs : List Fl) (o : DOp) : List Fl × Int :=
  if badOp o then (fs, 1)
  else if o.kind = 1 then putF fs o
  else if idxF o.name fs < 0 then (fs, 20)
  else if o.kind = 2 then (fs.modify (idxF o.name fs).toNat (fun f => ⟨f.name, allF f, []⟩), 0)
  else if o.kind = 3 then
    match fs[(idxF o.name fs).toNat]? with
    | none => (fs, 20)
    | some f => if o.pos < 0 ∨ ((allF f).size : Int) < o.pos then (fs, 1) else (fs.set (idxF o.name fs).toNat ⟨f.name, (allF f).extract 0 o.pos.toNat, []⟩, 0)
  else (fs.eraseIdx (idxF o.name fs).toNat, 0)
theorem findIdx_core (l : List Rw) (p : Rw → Bool) (q : Fl → Bool) (h : ∀ r, p r = q (core r)) : l.findIdx? p = (l.map core).findIdx? q := by
  induction l with
  | nil => rfl
  | cons x l ih => rw [List.findIdx?_cons, List.map_cons, List.findIdx?_cons, ih, h]
theorem idx_core (x : ByteArray) (l : List Rw) : idx (sameName x) l = idxF x (l.map core) := by
  unfold idx idxF; rw [findIdx_core l (sameName x) (fun f => sameN f.name x) (fun r => rfl)]; cases (l.map core).findIdx? (fun f => sameN f.name x) <;> rfl
theorem place_core (x : ByteArray) (l : List Rw) : (placeOf x l).toNat = placeF x (l.map core) := by
  unfold placeOf placeF
  rw [← findIdx_core l (aboveName x) (fun f => above f.name x) (fun r => rfl)]
  rcases idx_cases (aboveName x) l with ⟨_, hi⟩ | ⟨k, hk, hi, _⟩
  · rw [if_pos (by omega)]
    have : l.findIdx? (aboveName x) = none := by
      unfold idx at hi
      split at hi
      · omega
      · assumption
    rw [this]; simp
  · rw [if_neg (by omega), hi]
    have : l.findIdx? (aboveName x) = some k := by
      unfold idx at hi
      split at hi
      · rename_i i h; rw [h]; congr 1; omega
      · omega
    rw [this]; simp
/-- What an operation leaves. -/
def Done (w : World) (B pb : Nat) (fs : List Fl) (er : Int) (e : Ending) (w' : World) : Prop :=
  e = .returned (.int .i64 er) ∧ ∃ v' l', w'.heap[pb]? = some (.cells #[v'] 24 (0, 0)) ∧ OwnE w' B v' l' ∧ l'.map core = fs ∧ Only B pb w w'
theorem done_same {w w' : World} {B pb : Nat} {v : Value} {l : List Rw} {fs : List Fl} {er : Int} {e : Ending} (he : e = .returned (.int .i64 er)) (hp : w.heap[pb]? = some (.cells #[v] 24 (0, 0))) (hD : OwnE w B v l) (hl : l.map core = fs) (hB : B ≤ w.heap.size)
    (hb : Below w.heap.size w w') : Done w B pb fs er e w' :=
  ⟨he, v, l, (hb.block pb (Array.getElem?_eq_some_iff.1 hp).1).trans hp, hD.below hb, hl, only_of_below hb hB⟩
theorem done_from {w W : World} {B pb : Nat} {fs : List Fl} {er : Int} {e : Ending} {w' : World} (h : Done W B pb fs er e w') (hb : Below w.heap.size w W) (hB : B ≤ w.heap.size) : Done w B pb fs er e w' := by
  obtain ⟨he, v', l', h1, h2, h3, h4⟩ := h
  exact ⟨he, v', l', h1, h2, h3, (only_of_below hb hB).trans h4⟩
/-- The sizes under which an operation is done as it should. -/
structure Fits (l : List Rw) : Prop where
  files : (l.length + 1) * 56 ≤ 140737488355328
  opens : ∀ r ∈ l, (r.opens.length + 1) * 24 ≤ 140737488355328
  okay : Okay l
/-- Two stores: other safe bytes, and no open write. -/
theorem safe_done {w w2 : World} {pb B g cap n k : Nat} {v : Value} {l : List Rw} (hk : k < l.length) (hD : OwnE w2 B (.slice (some ⟨g, 0, none⟩) n cap) l) (hv : v = .slice (some ⟨g, 0, none⟩) n cap)
    (hpb : w2.heap[pb]? = some (.cells #[v] 24 (0, 0))) (ho : Only B pb w w2) (s : ByteArray) :
    let w' := (w2.setCell ⟨g, k * 3 + 1, none⟩ (.string s)).setCell ⟨g, k * 3 + 2, none⟩ (.slice none 0 0)
    ∃ v' l', w'.heap[pb]? = some (.cells #[v'] 24 (0, 0)) ∧ OwnE w' B v' l' ∧ l'.map core = (l.map core).set k ⟨l[k].name, s, []⟩ ∧ Only B pb w w' := by
  intro w'
  have hn : n = l.length := by
    rcases hD.1.2 with ⟨h, _⟩ | ⟨_, _, _, h, _⟩
    · cases h
    · injection h
  subst hn
  have hgB : B ≤ g := (hD.1.lt g rfl).1
  have hgp : g ≠ pb := fun e => not_at hD.1 hpb (by decide) (by rw [← e]; rfl)
  have hst := ((hD.1.stored (k * 3 + 1) (.string s)).1.stored (k * 3 + 2) (.slice none 0 0)).1
  have hrow : ((rowCells l).set (k * 3 + 1) (.string s)).set (k * 3 + 2) (.slice none 0 0) = rowCells (l.set k ⟨l[k].name, s, .slice none 0 0, []⟩) := by
    rw [← rowCells_set l k ⟨l[k].name, s, .slice none 0 0, []⟩ hk]
    congr 2
    apply List.ext_getElem?
    intro j
    rw [List.getElem?_set]
    split
    · rename_i e
      subst e
      rw [(rowCells_get l k hk).1, if_pos (by rw [rowCells_length]; omega)]
    · rfl
  rw [hrow] at hst
  have hoth : ∀ r ∈ l, w'.ownsRow B 76 2 r.ov r.opens.length (wrCells r.opens) := fun r hr => by
    have h1 := hD.2.1 r hr
    have h2 := owns_other h1 (fun e => rows_apart h1 hD.1 (by decide) e rfl) (k * 3 + 1) (.string s)
    exact owns_other h2 (fun e => rows_apart h1 hD.1 (by decide) e rfl) _ _
  refine ⟨v, l.set k ⟨l[k].name, s, .slice none 0 0, []⟩, ?_, ?_, ?_, ?_⟩
  · rw [heap_setCell_other _ _ _ _ (fun e => hgp e.symm), heap_setCell_other _ _ _ _ (fun e => hgp e.symm)]; exact hpb
  · rw [hv]
    exact hD.set k hk _ (fun r hr _ => hoth r hr) (World.ownsRow_nil _ _ _ _) hst fun b hb => by cases hb
  · apply List.ext_getElem?
    intro j
    rw [List.getElem?_map, List.getElem?_set, List.getElem?_set, List.getElem?_map]
    by_cases e : k = j
    · subst e
      simp [hk, core]
    · simp [e]
  · exact (ho.trans (only_setCell _ _ _ _ (.inl hgB))).trans (only_setCell _ _ _ _ (.inl hgB))
/-- A file taken out. -/
theorem drop_done {w w2 : World} {pb B n c k : Nat} {q : Option Addr} {v : Value} {l : List Rw} (hk : k < l.length) (ho : w2.ownsRow B 58 3 (.slice q n c) (l.length - 1) (rowCells (l.eraseIdx k))) (hop : ∀ r ∈ l, w2.ownsRow B 76 2 r.ov r.opens.length (wrCells r.opens))
    (hnd : (l.filterMap fun r => r.ov.ownBlock).Nodup) (hpb : w2.heap[pb]? = some (.cells #[v] 24 (0, 0))) (hon : Only B pb w w2) :
    let w' := w2.setCell ⟨pb, 0, none⟩ (.slice q n c)
    ∃ v' l', w'.heap[pb]? = some (.cells #[v'] 24 (0, 0)) ∧ OwnE w' B v' l' ∧ l'.map core = (l.map core).eraseIdx k ∧ Only B pb w w' := by
  intro w'
  refine ⟨.slice q n c, l.eraseIdx k, ?_, ⟨?_, fun r hr => ?_, ?_⟩, ?_, hon.trans (only_setCell _ _ _ _ (.inr rfl))⟩
  · rw [heap_setCell_same w2 pb 0 _ 24 _ hpb]; rfl
  · rw [List.length_eraseIdx, if_pos hk]; exact owns_other ho (not_at ho hpb (by decide)) _ _
  · have h := hop r (List.mem_of_mem_eraseIdx hr)
    exact owns_other h (not_at h hpb (by decide)) _ _
  · exact hnd.sublist ((List.eraseIdx_sublist l k).filterMap _)
  · rw [List.eraseIdx_eq_take_drop_succ, List.eraseIdx_eq_take_drop_succ, List.map_append, List.map_take, List.map_drop]
end Go.Proofs.Ytkecjopojnllnaa
namespace Go.Proofs.Ytkecjopojnllnaa
open Go.RowKit Go.Deep Go.Joins
def doF : List Fl → List DOp → List Fl × Int × Int
  | fs, [] => (fs, 0, 0)
  | fs, o :: r => if (changeF fs o).2 ≠ 0 then ((changeF fs o).1, 0, (changeF fs o).2) else ((doF (changeF fs o).1 r).1, (doF (changeF fs o).1 r).2.1 + 1, (doF (changeF fs o).1 r).2.2)
/-- Sizes on the plain side. -/
structure FitsF (fs : List Fl) (n m : Nat) : Prop where
  files : fs.length ≤ n
  opens : ∀ f ∈ fs, f.opens.length ≤ m
  safe : ∀ f ∈ fs, f.safe.size ≤ 140737489403904
  bytes : ∀ f ∈ fs, ∀ x ∈ f.opens, x.bytes.size ≤ 140737488355328
theorem layB_size (s : ByteArray) (l : List Wr) (hs : s.size ≤ 140737489403904) (hb : ∀ x ∈ l, x.bytes.size ≤ 140737488355328) : (layB s l).size ≤ 140737489403904 := by
  unfold layB
  split
  · exact hs
  · have h1 : (overAll (spliceB (List.replicate (sizeUp s.size l) 0) 0 s) l).length = sizeUp s.size l := by
      have h0 : (spliceB (List.replicate (sizeUp s.size l) 0) 0 s).length = sizeUp s.size l := by
        unfold spliceB
        rw [length_splice _ _ _ (by rw [len_eq]; simpa using sizeUp_ge _ _)]
        simp
      have : ∀ (m : List Wr) (L : List UInt8), (∀ x ∈ m, wk x = true → x.pos.toNat + x.bytes.size ≤ L.length) → (overAll L m).length = L.length := by
        intro m
        induction m with
        | nil => intro L _; rfl
        | cons x m ih =>
          intro L h
          have hx := length_over L x (h x (by simp))
          show (overAll (over L x) m).length = _
          rw [ih (over L x) (fun y hy hw => by rw [hx]; exact h y (by simp [hy]) hw), hx]
      rw [this l _ (fun x hx hw => by rw [h0]; exact sizeUp_has _ _ _ hx hw), h0]
    have h2 : (ByteArray.mk (overAll (spliceB (List.replicate (sizeUp s.size l) 0) 0 s) l).toArray).size = sizeUp s.size l := by
      refine Eq.trans ?_ h1
      show (overAll _ l).toArray.size = _
      rw [List.size_toArray]
    rw [h2]
    exact sizeUp_le _ _ hs hb
theorem fits_modify {fs : List Fl} {n m : Nat} (h : FitsF fs n m) (k : Nat) (g : Fl → Fl) (ho : ∀ f ∈ fs, (g f).opens.length ≤ m + 1) (hs : ∀ f ∈ fs, (g f).safe.size ≤ 140737489403904) (hb : ∀ f ∈ fs, ∀ x ∈ (g f).opens, x.bytes.size ≤ 140737488355328) :
    FitsF (fs.modify k g) n (m + 1) := by
  have hmem : ∀ f ∈ fs.modify k g, f ∈ fs ∨ ∃ f0 ∈ fs, f = g f0 := by
    intro f hf
    obtain ⟨i, hi⟩ := List.mem_iff_getElem?.1 hf
    rw [List.getElem?_modify] at hi
    cases hx : fs[i]? with
    | none => rw [hx] at hi; cases hi
    | some y =>
      rw [hx] at hi
      have hy := List.mem_of_getElem? hx
      by_cases e : k = i
      · simp [e] at hi; exact .inr ⟨y, hy, hi.symm⟩
      · simp [e] at hi; exact .inl (hi ▸ hy)
  refine ⟨by rw [List.length_modify]; exact h.files, fun f hf => ?_, fun f hf => ?_, fun f hf => ?_⟩
  · rcases hmem f hf with h1 | ⟨f0, h1, rfl⟩
    · exact Nat.le_succ_of_le (h.opens f h1)
    · exact ho f0 h1
  · rcases hmem f hf with h1 | ⟨f0, h1, rfl⟩
    · exact h.safe f h1
    · exact hs f0 h1
  · rcases hmem f hf with h1 | ⟨f0, h1, rfl⟩
    · exact h.bytes f h1
    · exact hb f0 h1
theorem fits_more {fs : List Fl} {n m n' m' : Nat} (h : FitsF fs n m) (hn : n ≤ n') (hm : m ≤ m') : FitsF fs n' m' :=
  ⟨Nat.le_trans h.files hn, fun f hf => Nat.le_trans (h.opens f hf) hm, h.safe, h.bytes⟩
theorem fits_sub {fs gs : List Fl} {n m : Nat} (h : FitsF fs n m) (hl : gs.length ≤ fs.length) (hs : ∀ f ∈ gs, f ∈ fs) : FitsF gs n m :=
  ⟨Nat.le_trans hl h.files, fun f hf => h.opens f (hs f hf), fun f hf => h.safe f (hs f hf), fun f hf => h.bytes f (hs f hf)⟩
theorem changeF_fits {fs : List Fl} {n m : Nat} (h : FitsF fs n m) (o : DOp) : FitsF (changeF fs o).1 (n + 1) (m + 1) := by
  have h' : FitsF fs (n + 1) (m + 1) := fits_more h (Nat.le_succ n) (Nat.le_succ m)
  have happ : ∀ {gs : List Fl} {n : Nat}, FitsF gs n m → ∀ k, (o.bytes.size : Int) ≤ 1048576 → FitsF (gs.modify k (fun f => ⟨f.name, f.safe, f.opens ++ [⟨o.pos, o.bytes⟩]⟩)) n (m + 1) := fun {gs n} hg k hb =>
    fits_modify hg k _ (fun f hf => by have := hg.opens f hf; simp; omega) (fun f hf => hg.safe f hf) (fun f hf x hx => by
      rcases List.mem_append.1 hx with hx | hx
      · exact hg.bytes f hf x hx
      · rw [List.mem_singleton] at hx; subst hx; show o.bytes.size ≤ _; omega)
  unfold changeF
  split
  · exact h'
  split
  · unfold putF
    split
    · exact h'
    split
    · exact h'
    · rename_i hp hlong
      have hb : (o.bytes.size : Int) ≤ 1048576 := by omega
      split
      · split
        · exact h'
        · refine happ (gs := insertAt fs (placeF o.name fs) (newFile o.name)) (n := n + 1) ⟨?_, ?_, ?_, ?_⟩ _ hb
          · have := h.files; simp [insertAt]; omega
          all_goals
            intro f hf
            have hf' : f ∈ fs ∨ f = newFile o.name := by
              unfold insertAt at hf
              rcases List.mem_append.1 hf with hf | hf
              · exact .inl (List.mem_of_mem_take hf)
              · rcases List.mem_cons.1 hf with rfl | hf
                · exact .inr rfl
                · exact .inl (List.mem_of_mem_drop hf)
          · rcases hf' with hf' | rfl
            · exact h.opens f hf'
            · exact Nat.zero_le _
          · rcases hf' with hf' | rfl
            · exact h.safe f hf'
            · exact Nat.zero_le _
          · rcases hf' with hf' | rfl
            · exact h.bytes f hf'
            · intro x hx; cases hx
      · exact fits_more (happ h _ hb) (Nat.le_succ n) (Nat.le_refl _)
  split
  · exact h'
  split
  · exact fits_more (fits_modify h _ _ (fun f _ => Nat.zero_le _) (fun f hf => layB_size _ _ (h.safe f hf) (h.bytes f hf)) (fun f _ x hx => by cases hx)) (Nat.le_succ n) (Nat.le_refl _)
  split
  · split
    · exact h'
    · rename_i f hf
      have hfm := List.mem_of_getElem? hf
      split
      · exact h'
      · refine ⟨by rw [List.length_set]; have := h.files; omega, ?_, ?_, ?_⟩
        all_goals
          intro g hg
          rcases List.mem_or_eq_of_mem_set hg with hg | rfl
        · exact h'.opens g hg
        · exact Nat.zero_le _
        · exact h'.safe g hg
        · show ((allF f).extract 0 o.pos.toNat).size ≤ _
          rw [ByteArray.size_extract]
          have := layB_size _ _ (h.safe f hfm) (h.bytes f hfm)
          unfold allF
          omega
        · exact h'.bytes g hg
        · intro x hx; cases hx
  · exact fits_sub h' (by rw [List.length_eraseIdx]; split <;> omega) fun f hf => List.mem_of_mem_eraseIdx hf
end Go.Proofs.Ytkecjopojnllnaa
namespace Go.Proofs.Ytkecjopojnllnaa
open Go.RowKit Go.Deep Go.Joins
def dopCells (l : List DOp) : List Value := l.flatMap fun r => [.int .i64 r.kind, .string r.name, .int .i64 r.pos, .string r.bytes]
theorem dopCells_length (l : List DOp) : (dopCells l).length = l.length * 4 := by
  induction l with
  | nil => rfl
  | cons x l ih => simp only [dopCells, List.flatMap_cons, List.length_append, List.length_cons, List.length_nil] at *; omega
theorem dopCells_get (l : List DOp) (k : Nat) (h : k < l.length) :
    (dopCells l)[k * 4]? = some (.int .i64 l[k].kind) ∧ (dopCells l)[k * 4 + 1]? = some (.string l[k].name) ∧ (dopCells l)[k * 4 + 2]? = some (.int .i64 l[k].pos) ∧ (dopCells l)[k * 4 + 3]? = some (.string l[k].bytes) := by
  induction l generalizing k with
  | nil => simp at h
  | cons x l ih =>
    have e : dopCells (x :: l) = .int .i64 x.kind :: .string x.name :: .int .i64 x.pos :: .string x.bytes :: dopCells l := rfl
    rw [e]
    cases k with
    | zero => simp
    | succ k =>
      have := ih k (by simpa using h)
      rw [show (k + 1) * 4 = k * 4 + 1 + 1 + 1 + 1 by omega]
      simpa using this
theorem Reads.dop {w : World} {v : Value} {l : List DOp} (h : Reads w v 4 l.length (dopCells l)) (k : Nat) (hk : k < l.length) :
    ∃ b off cap, v = .slice (some ⟨b, off, none⟩) l.length cap ∧ b < w.heap.size ∧ w.cell? ⟨b, off + k * 4, none⟩ = some (.int .i64 l[k].kind) ∧ w.cell? ⟨b, off + k * 4 + 1, none⟩ = some (.string l[k].name) ∧
      w.cell? ⟨b, off + k * 4 + 2, none⟩ = some (.int .i64 l[k].pos) ∧ w.cell? ⟨b, off + k * 4 + 3, none⟩ = some (.string l[k].bytes) := by
  obtain ⟨b, off, cap, hv, _, _, hb, hc⟩ := h.at (by omega)
  obtain ⟨g0, g1, g2, g3⟩ := dopCells_get l k hk
  exact ⟨b, off, cap, hv, hb, hc _ _ g0, hc _ _ g1, hc _ _ g2, hc _ _ g3⟩
theorem fits_of {l : List Rw} {n m : Nat} (h : FitsF (l.map core) n m) (hn : n ≤ 1099511627776) (hm : m ≤ 1099511627776) : Fits l := by
  refine ⟨?_, fun r hr => ?_, fun r hr => ⟨h.safe (core r) (List.mem_map_of_mem hr), h.bytes (core r) (List.mem_map_of_mem hr), ?_⟩⟩
  · have := h.files; rw [List.length_map] at this; omega
  · have : r.opens.length ≤ m := h.opens (core r) (List.mem_map_of_mem hr); omega
  · have : r.opens.length ≤ m := h.opens (core r) (List.mem_map_of_mem hr); omega
theorem ownE_mono {w : World} {B B' : Nat} {v : Value} {l : List Rw} (h : OwnE w B v l) (hB : B' ≤ B) : OwnE w B' v l :=
  ⟨owns_mono h.1 hB, fun r hr => owns_mono (h.2.1 r hr) hB, h.2.2⟩
theorem below_of_only {B B' pb : Nat} {a b : World} (h : Only B pb a b) (hB : B' ≤ B) (hp : B' ≤ pb) : Below B' a b :=
  ⟨h.os, h.tape, h.output, h.size, fun k hk => h.block k (by omega) (by omega)⟩
/-- The rest of the operations from number k on. -/
def Rest (fs : List Fl) (ops : List DOp) (k : Nat) (gs : List Fl) : Prop := doF fs ops = ((doF gs (ops.drop k)).1, (doF gs (ops.drop k)).2.1 + k, (doF gs (ops.drop k)).2.2)
theorem doF_nil (fs : List Fl) : doF fs [] = (fs, 0, 0) := rfl
theorem doF_cons (fs : List Fl) (o : DOp) (r : List DOp) : doF fs (o :: r) = if (changeF fs o).2 ≠ 0 then ((changeF fs o).1, 0, (changeF fs o).2) else ((doF (changeF fs o).1 r).1, (doF (changeF fs o).1 r).2.1 + 1, (doF (changeF fs o).1 r).2.2) := rfl
theorem rest_step {fs gs : List Fl} {ops : List DOp} {k : Nat} (h : Rest fs ops k gs) (hk : k < ops.length) (he : (changeF gs ops[k]).2 = 0) : Rest fs ops (k + 1) (changeF gs ops[k]).1 := by
  unfold Rest at *
  rw [h, List.drop_eq_getElem_cons hk, doF_cons, if_neg (by simpa using he)]
  refine Prod.ext rfl (Prod.ext ?_ rfl)
  show (doF (changeF gs ops[k]).1 (ops.drop (k + 1))).2.1 + 1 + (k : Int) = (doF (changeF gs ops[k]).1 (ops.drop (k + 1))).2.1 + ((k + 1 : Nat) : Int)
  omega
theorem rest_stop {fs gs : List Fl} {ops : List DOp} {k : Nat} (h : Rest fs ops k gs) (hk : k < ops.length) (he : (changeF gs ops[k]).2 ≠ 0) : doF fs ops = ((changeF gs ops[k]).1, (k : Int), (changeF gs ops[k]).2) := by
  unfold Rest at h
  rw [h, List.drop_eq_getElem_cons hk, doF_cons, if_pos he]
  simp
theorem rest_end {fs gs : List Fl} {ops : List DOp} (h : Rest fs ops ops.length gs) : doF fs ops = (gs, (ops.length : Int), 0) := by
  unfold Rest at h
  rw [h, List.drop_length, doF_nil]
  simp
end Go.Proofs.Ytkecjopojnllnaa
namespace Go.Proofs.Ytkecjopojnllnaa
open Go.RowKit Go.Deep Go.Joins
theorem doF_all (a : List DOp) : ∀ fs, (doF fs a).2.2 = 0 → (doF fs a).2.1 = (a.length : Int) := by
  induction a with
  | nil => intro fs _; rfl
  | cons o r ih =>
    intro fs h
    rw [doF_cons] at h ⊢
    by_cases he : (changeF fs o).2 ≠ 0
    · rw [if_pos he] at h
      exact absurd h he
    · rw [if_neg he] at h ⊢
      have := ih _ h
      simp only [List.length_cons]
      omega
theorem doF_some (a : List DOp) : ∀ fs, (doF fs a).2.2 ≠ 0 → (doF fs a).2.1 < (a.length : Int) := by
  induction a with
  | nil => intro fs h; exact absurd rfl h
  | cons o r ih =>
    intro fs h
    rw [doF_cons] at h ⊢
    by_cases he : (changeF fs o).2 ≠ 0
    · rw [if_pos he]
      simp only [List.length_cons]
      omega
    · rw [if_neg he] at h ⊢
      have := ih _ h
      simp only [List.length_cons]
      omega
theorem doF_append (a b : List DOp) : ∀ fs, (doF fs a).2.2 = 0 → doF fs (a ++ b) = ((doF (doF fs a).1 b).1, (a.length : Int) + (doF (doF fs a).1 b).2.1, (doF (doF fs a).1 b).2.2) := by
  induction a with
  | nil => intro fs _; simp [doF_nil]
  | cons o r ih =>
    intro fs h
    rw [List.cons_append, doF_cons fs o (r ++ b)]
    rw [doF_cons] at h ⊢
    by_cases he : (changeF fs o).2 ≠ 0
    · rw [if_pos he] at h
      exact absurd h he
    · rw [if_neg he] at h ⊢
      rw [if_neg he, ih _ h]
      simp only [List.length_cons, Prod.mk.injEq, true_and, and_true]
      omega
end Go.Proofs.Ytkecjopojnllnaa
namespace Go.Proofs.Ytkecjopojnllnaa
open Go.RowKit Go.Deep Go.Joins
theorem doF_le (a : List DOp) : ∀ fs, 0 ≤ (doF fs a).2.1 ∧ (doF fs a).2.1 ≤ (a.length : Int) := by
  induction a with
  | nil => intro fs; simp [doF_nil]
  | cons o r ih =>
    intro fs
    rw [doF_cons]
    split
    · simp only [List.length_cons]; omega
    · have := ih (changeF fs o).1
      simp only [List.length_cons]
      omega
theorem doF_fits (a : List DOp) : ∀ fs n m, FitsF fs n m → FitsF (doF fs a).1 (n + a.length) (m + a.length) := by
  induction a with
  | nil => intro fs n m h; exact h
  | cons o r ih =>
    intro fs n m h
    have h1 := changeF_fits h o
    rw [doF_cons]
    split
    · exact fits_more h1 (by simp only [List.length_cons]; omega) (by simp only [List.length_cons]; omega)
    · have := ih _ _ _ h1
      exact fits_more this (by simp only [List.length_cons]; omega) (by simp only [List.length_cons]; omega)
theorem dop_one (l : List DOp) : ∀ u ∈ dopCells l, u.oneCell' = true := by
  intro u hu
  obtain ⟨r, _, hu⟩ := List.mem_flatMap.1 hu
  simp only [List.mem_cons, List.not_mem_nil, or_false] at hu
  rcases hu with rfl | rfl | rfl | rfl <;> rfl
theorem dopCells_append (a b : List DOp) : dopCells (a ++ b) = dopCells a ++ dopCells b := by simp [dopCells]
end Go.Proofs.Ytkecjopojnllnaa
