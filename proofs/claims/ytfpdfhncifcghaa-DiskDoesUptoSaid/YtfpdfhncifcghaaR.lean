/- An open write laid behind the others. -/
import Derived.Test.YtfpdfhncifcghaaQ
import Derived.Deep.DeepCutAuto
namespace Go.Proofs.Ytfpdfhncifcghaa
open Go.RowKit

def opV (kind : Int) (name : ByteArray) (pos : Int) (bytes : ByteArray) : Value := .agg #[.int .i64 kind, .string name, .int .i64 pos, .string bytes]

theorem two_one (a : Int) (s : ByteArray) : ∀ u ∈ [Value.int .i64 a, .string s], u.oneCell' = true := fun u hu => by
  simp at hu; rcases hu with rfl | rfl <;> rfl
theorem put_neg (kind : Int) (name : ByteArray) (pos : Int) (bytes : ByteArray) (p : Value) (w : World) (h : pos < 0) :
    Calls Try.prog 32 #[p, .agg #[.int .i64 kind, .string name, .int .i64 pos, .string bytes]] w fun e w' => e = .returned (.int .i64 1) ∧ Below w.heap.size w w' := by
  go_enter Try.func32, Try.ntmps32
  go_wp2_with fail
  go_ret
  exact ⟨rfl, below1 w _⟩

theorem put_long (kind : Int) (name : ByteArray) (pos : Int) (bytes : ByteArray) (p : Value) (w : World) (h0 : 0 ≤ pos) (h : 1048576 < pos ∨ (bytes.size : Int) > 1048576 - pos) (_hp : pos ≤ 9223372036854775807) :
    Calls Try.prog 32 #[p, .agg #[.int .i64 kind, .string name, .int .i64 pos, .string bytes]] w fun e w' => e = .returned (.int .i64 2) ∧ Below w.heap.size w w' := by
  by_cases h1 : 1048576 < pos
  · go_enter Try.func32, Try.ntmps32
    go_wp2_with fail
    go_ret
    exact ⟨rfl, below1 w _⟩
  · have h2 : (1048576 - pos) < (bytes.size : Int) := by omega
    go_enter Try.func32, Try.ntmps32
    go_wp2_with fail
    go_ret
    exact ⟨rfl, below1 w _⟩

/-- The block of the operation's copy. -/
def opCells (kind : Int) (name : ByteArray) (pos : Int) (bytes : ByteArray) : Array Value := #[.int .i64 kind, .string name, .int .i64 pos, .string bytes]
/-- Behind the search: its number in hand, the operation's copy as it was, the disk as it was. -/
def Found (w : World) (kind : Int) (name : ByteArray) (pos : Int) (bytes : ByteArray) (n : Int) (s : Value) (wx : World) : Prop :=
  s = .int .i64 n ∧ Below (w.heap.size + 1) (w.alloc (.cells (opCells kind name pos bytes) 53)) wx
/-- Behind the place's being found or made: file number k is the one. -/
def Placed (w : World) (pb B : Nat) (kind : Int) (name : ByteArray) (pos : Int) (bytes : ByteArray) (fs : List Fl) (k : Nat) (s : Value) (wx : World) : Prop :=
  s = .int .i64 (k : Int) ∧ ∃ v l, wx.heap[pb]? = some (.cells #[v] 24 (0, 0)) ∧ OwnE wx B v l ∧ l.map core = fs ∧ Only B pb w wx ∧ w.heap.size < wx.heap.size ∧ wx.heap[w.heap.size]? = some (.cells (opCells kind name pos bytes) 53 (0, 0))
def newFile (name : ByteArray) : Fl := ⟨name, .empty, []⟩
def insertAt (fs : List Fl) (k : Nat) (f : Fl) : List Fl := fs.take k ++ f :: fs.drop k
/-- Which file it is, and the files with it. -/
def spot (l : List Rw) (name : ByteArray) : List Fl × Nat :=
  if idx (sameName name) l < 0 then (insertAt (l.map core) (placeOf name l).toNat (newFile name), (placeOf name l).toNat) else (l.map core, (idx (sameName name) l).toNat)

theorem insert_any (l : List Rw) (v : Value) (r : Rw) (xb i : Nat) (B : Nat) (w : World) (hown : w.ownsRow B 35 3 v l.length (rowCells l)) (hB : B ≤ w.heap.size) (hi : i ≤ l.length) (hone : ∀ u ∈ rowCells l, u.oneCell' = true)
    (hx : w.heap[xb]? = some (.cells #[.string r.name, .string r.safe, r.ov] 35 (0, 0))) (hr1 : r.ov.oneCell' = true) (hreach : (l.length + 1) * 56 ≤ 140737488355328) (hne : v.ownBlock ≠ some xb) :
    Calls Try.prog 40 #[v, .int .i64 (i : Int), .slice (some ⟨xb, 0, none⟩) 1 1] w fun e w' => ∃ v', e = .returned v' ∧ w'.ownsRow B 35 3 v' (l.length + 1) (rowCells (l.take i ++ r :: l.drop i)) ∧ w.grownBy w' v.ownBlock := by
  by_cases he : i = l.length
  · subst he
    rw [List.take_length, List.drop_length]
    exact insert_end l v r xb B w hown hB hx hr1 hreach
  · obtain ⟨q, cap, rfl⟩ := owns_shape hown
    have hle : l.length ≤ cap := by
      rcases hown.2 with ⟨h1, h2⟩ | ⟨g, cap, cur, h1, _, _, h3, _⟩
      · simp at h1; omega
      · simp at h1; omega
    by_cases hc : l.length + 1 ≤ cap
    · exact insert_room l _ r xb i B w hown (by omega) hone hx hr1 hreach hne fun p n c h => by simp at h; omega
    · exact insert_grow l _ r xb i B w hown hB (by omega) hone hx hr1 hreach fun p n c h => by simp at h; omega
theorem placeOf_le (name : ByteArray) (l : List Rw) : ∃ P : Nat, placeOf name l = P ∧ P ≤ l.length := by
  unfold placeOf
  rcases idx_cases (aboveName name) l with ⟨_, hi⟩ | ⟨k, hk, hi, _⟩
  · exact ⟨l.length, by rw [if_pos (by omega)], Nat.le_refl _⟩
  · exact ⟨k, by rw [if_neg (by omega), hi], by omega⟩
theorem wider {w w' : World} {B n m size : Nat} {e : TypeId} {v u : Value} {xs ys : List Value} {e2 : TypeId} {s2 : Nat} (h : w.ownsRow B e size v n xs) (k : w.ownsRow B e2 s2 u m ys) (hne : e ≠ e2) (hg : w.grownBy w' u.ownBlock) : w'.ownsRow B e size v n xs := by
  refine h.kept hg ?_
  cases hb : v.ownBlock with
  | none => exact .inl rfl
  | some b => exact .inr (fun e => rows_apart h k hne hb e.symm)

theorem not_at {w : World} {B n size pb : Nat} {e t : TypeId} {v : Value} {xs : List Value} {c : Array Value} (h : w.ownsRow B e size v n xs) (hp : w.heap[pb]? = some (.cells c t (0, 0))) (hne : e ≠ t) : v.ownBlock ≠ some pb := by
  intro hb
  obtain ⟨c2, h2⟩ := owns_block h hb
  rw [hp] at h2
  simp only [Option.some.injEq, Obj.cells.injEq] at h2
  exact hne h2.2.1.symm
theorem placed_new {w w3 : World} {pb B P : Nat} {kind : Int} {name : ByteArray} {pos : Int} {bytes : ByteArray} {l : List Rw} {v : Value} {q : Option Addr} {n c : Nat} (hnd : (l.filterMap fun r => r.ov.ownBlock).Nodup) (hpl : pb < w.heap.size)
    (ho : w3.ownsRow B 35 3 (.slice q n c) (l.length + 1) (rowCells (l.take P ++ ⟨name, .empty, .slice none 0 0, []⟩ :: l.drop P))) (hop : ∀ r ∈ l, w3.ownsRow B 37 2 r.ov r.opens.length (wrCells r.opens)) (hon : Only B pb w w3)
    (hpb : w3.heap[pb]? = some (.cells #[v] 24 (0, 0))) (hob : w3.heap[w.heap.size]? = some (.cells (opCells kind name pos bytes) 53 (0, 0))) (s : Value) (hs : s = .int .i64 (P : Int)) (hP : P ≤ l.length) :
    Placed w pb B kind name pos bytes (insertAt (l.map core) P (newFile name)) P s (w3.setCell ⟨pb, 0, none⟩ (.slice q n c)) := by
  have hlen : (l.take P ++ ⟨name, .empty, .slice none 0 0, []⟩ :: l.drop P : List Rw).length = l.length + 1 := by simp; omega
  refine ⟨hs, .slice q n c, l.take P ++ ⟨name, .empty, .slice none 0 0, []⟩ :: l.drop P, ?_, ⟨?_, fun r hr => ?_, ?_⟩, ?_, hon.trans (only_setCell _ _ _ _ (.inr rfl)), ?_, ?_⟩
  · rw [heap_setCell_same w3 pb 0 _ 24 _ hpb]; rfl
  · rw [hlen]; exact owns_other ho (not_at ho hpb (by decide)) _ _
  · rcases List.mem_append.1 hr with hr | hr
    · have h := hop r (List.mem_of_mem_take hr)
      exact owns_other h (not_at h hpb (by decide)) _ _
    · rcases List.mem_cons.1 hr with rfl | hr
      · exact World.ownsRow_nil _ _ _ _
      · have h := hop r (List.mem_of_mem_drop hr)
        exact owns_other h (not_at h hpb (by decide)) _ _
  · rw [List.filterMap_append, List.filterMap_cons]
    show (_ ++ List.filterMap _ (l.drop P)).Nodup
    rw [← List.filterMap_append, List.take_append_drop]
    exact hnd
  · unfold insertAt
    rw [List.map_append, List.map_cons, List.map_take, List.map_drop]
    rfl
  · have := hon.size
    have h2 := (Array.getElem?_eq_some_iff.1 hob).1
    simpa [World.setCell] using h2
  · rw [heap_setCell_other w3 _ _ _ (by simp; omega)]
    exact hob

theorem spot_lt (l : List Rw) (name : ByteArray) : (spot l name).2 < (spot l name).1.length := by
  unfold spot
  rcases idx_cases (sameName name) l with ⟨_, hi⟩ | ⟨k, hk, hi, _⟩
  · rw [if_pos (by omega)]
    obtain ⟨P, hP, hPl⟩ := placeOf_le name l
    rw [hP]
    simp [insertAt]
    omega
  · rw [if_neg (by omega), hi]
    simpa using hk
theorem spot_reach (l : List Rw) (name : ByteArray) (h : ∀ r ∈ l, (r.opens.length + 1) * 24 ≤ 140737488355328) : ∀ f ∈ (spot l name).1, (f.opens.length + 1) * 24 ≤ 140737488355328 := by
  have h1 : ∀ f ∈ l.map core, (f.opens.length + 1) * 24 ≤ 140737488355328 := fun f hf => by
    obtain ⟨r, hr, rfl⟩ := List.mem_map.1 hf
    exact h r hr
  unfold spot
  split
  · intro f hf
    unfold insertAt at hf
    rcases List.mem_append.1 hf with hf | hf
    · exact h1 f (List.mem_of_mem_take hf)
    · rcases List.mem_cons.1 hf with rfl | hf
      · simp [newFile]
      · exact h1 f (List.mem_of_mem_drop hf)
  · exact h1
/-- Behind the append and the store. -/
theorem put_done {w wc w2 : World} {pb B g cap n k : Nat} {q2 q3 : Option Addr} {qc2 qc3 : Nat} {v : Value} {l : List Rw} {x : Wr} (hk : k < l.length) (hD : OwnE wc B (.slice (some ⟨g, 0, none⟩) n cap) l) (hv : v = .slice (some ⟨g, 0, none⟩) n cap)
    (hpb : wc.heap[pb]? = some (.cells #[v] 24 (0, 0))) (hov : l[k].ov = .slice q2 l[k].opens.length qc2) (hB : B ≤ wc.heap.size) (ho : Only B pb w wc) (o : Obj)
    (hown3 : w2.ownsRow B 37 2 (.slice q3 (l[k].opens.length + 1) qc3) (l[k].opens.length + 1) (wrCells l[k].opens ++ [.int .i64 x.pos, .string x.bytes]))
    (hg3 : ((wc.drew).alloc o).grownBy w2 (Value.slice q2 l[k].opens.length qc2).ownBlock)
    (hsame : ∀ b, (Value.slice q3 (l[k].opens.length + 1) qc3).ownBlock = some b → (Value.slice q2 l[k].opens.length qc2).ownBlock = some b ∨ ((wc.drew).alloc o).heap.size ≤ b) :
    let w' := w2.setCell ⟨g, k * 3 + 2, none⟩ (.slice q3 (l[k].opens.length + 1) qc3)
    ∃ v' l', w'.heap[pb]? = some (.cells #[v'] 24 (0, 0)) ∧ OwnE w' B v' l' ∧ l'.map core = (l.map core).modify k (fun f => ⟨f.name, f.safe, f.opens ++ [x]⟩) ∧ Only B pb w w' := by
  intro w'
  have hmem : l[k] ∈ l := List.getElem_mem _
  have hpl := (Array.getElem?_eq_some_iff.1 hpb).1
  have hgrow : wc.grownBy w2 l[k].ov.ownBlock := by
    rw [hov]
    exact ⟨hg3.os, hg3.tape, hg3.output, Nat.le_trans (by simp) hg3.size, fun j hj hne => (hg3.block j (by simp; omega) hne).trans (heap_alloc_old (w := wc.drew) o (r := j) (by simpa using hj))⟩
  have hfo : w2.ownsRow B 35 3 (.slice (some ⟨g, 0, none⟩) n cap) l.length (rowCells l) := wider hD.1 (hD.2.1 _ hmem) (by decide) hgrow
  have hn : n = l.length := by
    rcases hD.1.2 with ⟨h, _⟩ | ⟨_, _, _, h, _⟩
    · cases h
    · injection h
  subst hn
  have hgB : B ≤ g := (hD.1.lt g rfl).1
  have hgl : g < wc.heap.size := (hD.1.lt g rfl).2
  have hpb2 : w2.heap[pb]? = some (.cells #[v] 24 (0, 0)) := (hgrow.block pb hpl (fun e => not_at (hD.2.1 _ hmem) hpb (by decide) e.symm)).trans hpb
  have hgp : g ≠ pb := fun e => not_at hD.1 hpb (by decide) (by rw [← e]; rfl)
  have hst := (hfo.stored (k * 3 + 2) (.slice q3 (l[k].opens.length + 1) qc3)).1
  rw [rowCells_set2 l k ⟨l[k].name, l[k].safe, .slice q3 (l[k].opens.length + 1) qc3, l[k].opens ++ [x]⟩ hk rfl rfl] at hst
  have hnew : w2.ownsRow B 37 2 (.slice q3 (l[k].opens.length + 1) qc3) (l[k].opens ++ [x]).length (wrCells (l[k].opens ++ [x])) := owns_snoc hown3
  refine ⟨v, l.set k ⟨l[k].name, l[k].safe, .slice q3 (l[k].opens.length + 1) qc3, l[k].opens ++ [x]⟩, ?_, ?_, ?_, ?_⟩
  · rw [heap_setCell_other w2 _ _ _ (fun e => hgp e.symm)]; exact hpb2
  · rw [hv]
    refine hD.set k hk _ (fun s hs hne => ?_) ?_ hst fun b hb => ?_
    · have h1 := hD.2.1 s hs
      have h2 : w2.ownsRow B 37 2 s.ov s.opens.length (wrCells s.opens) := by
        refine h1.kept hgrow ?_
        rcases hne with h | h
        · exact .inr h
        · exact .inl h
      exact owns_other h2 (fun e => rows_apart h2 hfo (by decide) e rfl) _ _
    · exact owns_other hnew (fun e => rows_apart hnew hfo (by decide) e rfl) _ _
    · rw [hov]
      refine (hsame b hb).imp id fun h => ?_
      simp at h
      omega
  · apply List.ext_getElem?
    intro j
    rw [List.getElem?_map, List.getElem?_set, List.getElem?_modify, List.getElem?_map]
    by_cases e : k = j
    · subst e
      simp [hk, core]
    · simp [e]
  · exact ho.trans ((only_of_grown hgrow hB fun j hj => ((hD.2.1 _ hmem).lt j hj).1).trans (only_setCell _ _ _ _ (.inl hgB)))

end Go.Proofs.Ytfpdfhncifcghaa
