/- The arguments, opened: a disk, fates. -/
import Derived.Test.YtfpdfhncifcghaaW
import Derived.Deep.Slices
import Derived.Deep.Strs
import Derived.Lib.SmallJoins
namespace Go.Proofs.Ytfpdfhncifcghaa
open Go.RowKit Go.Deep Go.Joins Go.WideShapes Go.ChangeShapes

section
variable {H : Type} {enc : TypeId × Value → H} {w : World} {base : Nat} {spare : Nat → Bool} {held : Bool}

theorem flat_get {α : Type} (c : α → List Value) (size : Nat) (hc : ∀ a, (c a).length = size) (l : List α) : ∀ (j : Nat) (u : Value), (l.flatMap c)[j]? = some u → ∃ i r, j = i * size + r ∧ ∃ h : i < l.length, (c l[i])[r]? = some u := by
  induction l with
  | nil => intro j u h; simp at h
  | cons x l ih =>
    intro j u h
    rw [List.flatMap_cons] at h
    by_cases hj : j < (c x).length
    · rw [List.getElem?_append_left hj] at h
      exact ⟨0, j, by omega, by simp, h⟩
    · rw [List.getElem?_append_right (by omega)] at h
      obtain ⟨i, r, h1, h2, h3⟩ := ih _ u h
      rw [hc] at h1 hj
      exact ⟨i + 1, r, by rw [Nat.add_mul]; omega, by simp; omega, h3⟩
theorem flat_length {α : Type} (c : α → List Value) (size : Nat) (hc : ∀ a, (c a).length = size) (l : List α) : (l.flatMap c).length = l.length * size := by
  induction l with
  | nil => simp
  | cons x l ih => rw [List.flatMap_cons, List.length_append, ih, hc, List.length_cons, Nat.add_mul]; omega

theorem open_list {α : Type} [Inhabited α] {t e : TypeId} {fuel : Nat} {v : Value} {x : DataW H × List MemPlace} (size : Nat) (c : α → List Value) (R : α → DataW H → Prop) (ht : Try.prog.underlying t = some (.slice e)) (hsz : Try.prog.cellsOf e = size)
    (hc : ∀ a, (c a).length = size) (h : DataW.trod enc Try.prog w base spare held fuel t [v] = some x)
    (helem : ∀ n cs y, DataW.trod enc Try.prog w base spare held n e cs = some y → ∃ a, cs = c a ∧ R a y.1) :
    ∃ l : List α, Reads w v size l.length (l.flatMap c) ∧ ((x.1 = .nil ∧ l = []) ∨ ∃ elems sp, x.1 = .slice elems sp ∧ elems.length = l.length ∧ ∀ i (hi : i < l.length), ∃ d, elems[i]? = some d ∧ R l[i] d) := by
  rcases open_slice ht h with ⟨hcs, hx⟩ | ⟨a, len, cap, m, n, D, Pl, hcs, hb, hl, hm, hmm, hx, hel⟩
  · refine ⟨[], ⟨by simp, .inl ⟨by simpa using hcs, rfl⟩⟩, .inl ⟨by rw [hx], rfl⟩⟩
  · have hlm : len ≤ m := by rw [hmm]; split <;> omega
    have hex : ∀ i, i < len → ∃ y : α, w.cells? base (a.add (i * size)) size = some (c y) ∧ R y (D i) := fun i hi => by
      obtain ⟨cs', h1, h2⟩ := hel i (by omega)
      rw [hsz] at h1
      obtain ⟨y, h3, h4⟩ := helem _ _ _ h2
      exact ⟨y, h3 ▸ h1, h4⟩
    obtain ⟨f, hf⟩ := choose_lt hex
    have hll : ((List.range len).map f).length = len := by simp
    refine ⟨(List.range len).map f, ⟨flat_length c size hc _, .inr ⟨a, cap, by rw [hll]; simpa using hcs, by rw [hll]; exact hl, hm, fun j u hu => ?_⟩⟩, .inr ⟨(List.range len).map D, _, by rw [hx], by simp, fun i hi => ?_⟩⟩
    · obtain ⟨i, r, rfl, hi, hr⟩ := flat_get c size hc _ j u hu
      rw [hll] at hi
      simp only [List.getElem_map, List.getElem_range] at hr
      obtain ⟨h1, _⟩ := hf i hi
      have hs := World.cells?_some h1
      have hr2 : r < size := by have := (List.getElem?_eq_some_iff.1 hr).1; rw [hc] at this; exact this
      rw [← add_add]
      have := hs.2.2 r hr2
      rw [this]; exact hr
    · rw [hll] at hi
      exact ⟨D i, by simp [hi], by simpa using (hf i hi).2⟩
theorem cells37 : Try.prog.cellsOf 37 = 2 := by kernel_rfl
theorem cells35 : Try.prog.cellsOf 35 = 3 := by kernel_rfl
theorem cells50 : Try.prog.cellsOf 50 = 3 := by kernel_rfl
theorem cells24 : Try.prog.cellsOf 24 = 1 := by kernel_rfl
theorem cells4 : Try.prog.cellsOf 4 = 1 := by kernel_rfl
theorem cells3 : Try.prog.cellsOf 3 = 1 := by kernel_rfl
theorem cells9 : Try.prog.cellsOf 9 = 1 := by kernel_rfl
theorem cells33 : Try.prog.cellsOf 33 = 1 := by kernel_rfl
theorem cells48 : Try.prog.cellsOf 48 = 1 := by kernel_rfl
theorem cells22 : Try.prog.cellsOf 22 = 1 := by kernel_rfl

def ReadWr (x : Wr) (d : DataW H) : Prop := d = .agg [.lit (.int .i64 x.pos), .lit (.string x.bytes.data.toList)] ∧ x.bytes.size ≤ maxLen ∧ (Lit.int .i64 x.pos).wf = true
instance : Inhabited Wr := ⟨⟨0, .empty⟩⟩
instance : Inhabited Rw := ⟨⟨.empty, .empty, .nilFunc, []⟩⟩
instance : Inhabited Ft := ⟨⟨.nilFunc, 0, 0, []⟩⟩
theorem elem_wr (n : Nat) (cs : List Value) (y : DataW H × List MemPlace) (h : DataW.trod enc Try.prog w base spare held n 37 cs = some y) : ∃ a : Wr, cs = [.int .i64 a.pos, .string a.bytes] ∧ ReadWr a y.1 := by
  obtain ⟨y0, y1, n, rfl, hl, h0, h1⟩ := trod_struct2 Try.underlying37 h
  rw [cells37] at hl
  match cs, hl with
  | [a, b], _ =>
    obtain ⟨p, e0, rfl, hw⟩ := DataW.trod_int Try.underlying3 h0
    obtain ⟨s, e1, rfl, hs⟩ := DataW.trod_string Try.underlying9 h1
    simp [cells3] at e0
    simp [cells9] at e1
    subst e0 e1
    exact ⟨⟨p, s⟩, rfl, rfl, hs, hw⟩
/-- A row of open writes as data. -/
def ReadWrs (l : List Wr) (d : DataW H) : Prop := (d = .nil ∧ l = []) ∨ ∃ elems sp, d = .slice elems sp ∧ elems.length = l.length ∧ ∀ i (hi : i < l.length), ∃ d, elems[i]? = some d ∧ ReadWr l[i] d
def ReadRw (w : World) (r : Rw) (d : DataW H) : Prop := ∃ dn ds dw, d = .agg [dn, ds, dw] ∧ dn = .lit (.string r.name.data.toList) ∧ ds = .lit (.string r.safe.data.toList) ∧ r.name.size ≤ maxLen ∧ r.safe.size ≤ maxLen ∧ ReadWrs r.opens dw ∧ Reads w r.ov 2 r.opens.length (wrCells r.opens)
theorem elem_rw (n : Nat) (cs : List Value) (y : DataW H × List MemPlace) (h : DataW.trod enc Try.prog w base spare held n 35 cs = some y) : ∃ a : Rw, cs = [.string a.name, .string a.safe, a.ov] ∧ ReadRw w a y.1 := by
  obtain ⟨y0, y1, y2, n, rfl, hl, h0, h1, h2⟩ := trod_struct3 Try.underlying35 h
  rw [cells35] at hl
  match cs, hl with
  | [a, b, c], _ =>
    obtain ⟨nm, e0, rfl, hn⟩ := DataW.trod_string Try.underlying9 h0
    obtain ⟨sf, e1, rfl, hs⟩ := DataW.trod_string Try.underlying9 h1
    simp [cells9] at e0 e1
    subst e0 e1
    have h2' : DataW.trod enc Try.prog w base spare held n 33 [c] = some y2 := by simpa [cells33] using h2
    obtain ⟨ws, hr, hw⟩ := open_list 2 (fun x : Wr => [.int .i64 x.pos, .string x.bytes]) ReadWr Try.underlying33 cells37 (fun _ => rfl) h2' elem_wr
    exact ⟨⟨nm, sf, c, ws⟩, rfl, _, _, _, rfl, rfl, rfl, hn, hs, hw, hr⟩
/-- A disk as data. -/
def ReadDisk (w : World) (l : List Rw) (d : DataW H) : Prop := ∃ df, d = .agg [df] ∧ ((df = .nil ∧ l = []) ∨ ∃ elems sp, df = .slice elems sp ∧ elems.length = l.length ∧ ∀ i (hi : i < l.length), ∃ d, elems[i]? = some d ∧ ReadRw w l[i] d)
theorem open_disk {r : Reach} {b0 : Nat} {v : Value} {d : DataW H} {p : List MemPlace} (hv : Value.okWide Try.prog w r b0 24 v) (h : DataW.Trod enc Try.prog w base spare held 24 v d p) :
    ∃ (fv : Value) (l : List Rw), v = .agg #[fv] ∧ Reads w fv 3 l.length (rowCells l) ∧ ReadDisk w l d := by
  obtain ⟨cs, rfl, hsz⟩ := okWide_struct Try.underlying24 hv
  rw [cells24] at hsz
  obtain ⟨fuel, h⟩ := h
  have h' : DataW.trod enc Try.prog w base spare held fuel 24 cs.toList = some (d, p) := h
  obtain ⟨y0, n, hx, hl, h0⟩ := trod_struct1 Try.underlying24 h'
  obtain ⟨c, rfl⟩ : ∃ c, cs = #[c] := by
    match cs, hsz with
    | ⟨[c]⟩, _ => exact ⟨c, rfl⟩
  have h0' : DataW.trod enc Try.prog w base spare held n 22 [c] = some y0 := by simpa [cells22] using h0
  obtain ⟨l, hr, hd⟩ := open_list 3 (fun x : Rw => [.string x.name, .string x.safe, x.ov]) (ReadRw w) Try.underlying22 cells35 (fun _ => rfl) h0' elem_rw
  simp only [Prod.mk.injEq] at hx
  exact ⟨c, l, rfl, hr, y0.1, hx.1, hd⟩
theorem ReadDisk.opens {l : List Rw} {d : DataW H} (h : ReadDisk w l d) : Opens w l := by
  obtain ⟨df, _, h⟩ := h
  rcases h with ⟨_, rfl⟩ | ⟨elems, sp, _, _, hel⟩
  · intro r hr; cases hr
  · intro r hr
    obtain ⟨i, hi, rfl⟩ := List.getElem_of_mem hr
    obtain ⟨d, _, _, _, _, _, _, _, _, _, _, h⟩ := hel i hi
    exact h
theorem boolCells_flat (l : List Bool) : boolCells l = l.flatMap fun b => [Value.bool b] := by
  induction l with
  | nil => rfl
  | cons b l ih => rw [List.flatMap_cons, ← ih]; rfl
theorem elem_ft (n : Nat) (cs : List Value) (y : DataW H × List MemPlace) (h : DataW.trod enc Try.prog w base spare held n 50 cs = some y) : ∃ a : Ft, cs = [a.wv, .int .i64 a.torn, .int .i64 a.nb] ∧ Reads w a.wv 1 a.whole.length (boolCells a.whole) := by
  obtain ⟨y0, y1, y2, n, rfl, hl, h0, h1, h2⟩ := trod_struct3 Try.underlying50 h
  rw [cells50] at hl
  match cs, hl with
  | [a, b, c], _ =>
    obtain ⟨t, e1, rfl, _⟩ := DataW.trod_int Try.underlying3 h1
    obtain ⟨m, e2, rfl, _⟩ := DataW.trod_int Try.underlying3 h2
    simp [cells3] at e1 e2
    subst e1 e2
    have h0' : DataW.trod enc Try.prog w base spare held n 48 [a] = some y0 := by simpa [cells48] using h0
    obtain ⟨bs, hr, _⟩ := open_list 1 (fun b : Bool => [.bool b]) (fun _ _ => True) Try.underlying48 cells4 (fun _ => rfl) h0' (fun n cs y hy => by
      obtain ⟨b, e, _⟩ := DataW.trod_bool Try.underlying4 hy
      exact ⟨b, e, trivial⟩)
    rw [← boolCells_flat] at hr
    exact ⟨⟨a, t, m, bs⟩, rfl, hr⟩
theorem open_fates {r : Reach} {b0 : Nat} {v : Value} {d : DataW H} {p : List MemPlace} (hv : Value.okWide Try.prog w r b0 39 v) (h : DataW.Trod enc Try.prog w base spare held 39 v d p) :
    ∃ fs : List Ft, Reads w v 3 fs.length (ftCells fs) ∧ Wholes w fs := by
  obtain ⟨a, len, cap, rfl⟩ := okWide_slice Try.underlying39 hv
  obtain ⟨fuel, h⟩ := h
  have h' : DataW.trod enc Try.prog w base spare held fuel 39 [.slice a len cap] = some (d, p) := h
  obtain ⟨fs, hr, hd⟩ := open_list 3 (fun x : Ft => [x.wv, .int .i64 x.torn, .int .i64 x.nb]) (fun x _ => Reads w x.wv 1 x.whole.length (boolCells x.whole)) Try.underlying39 cells50 (fun _ => rfl) h' elem_ft
  refine ⟨fs, hr, ?_⟩
  rcases hd with ⟨_, rfl⟩ | ⟨elems, sp, _, _, hel⟩
  · intro r hr; cases hr
  · intro r hr
    obtain ⟨i, hi, rfl⟩ := List.getElem_of_mem hr
    exact (hel i hi).elim fun _ h => h.2

/-! ### Sizes -/
theorem bytes35 : Try.prog.bytesOf 35 = 56 := by kernel_rfl
theorem bytes37 : Try.prog.bytesOf 37 = 24 := by kernel_rfl
theorem weightsAll_mem {e : TypeId} {d : DataW H} {l : List (DataW H)} (h : d ∈ l) {x : Nat} (hx : x ∈ d.weights Try.prog e) : x ∈ DataW.weightsAll Try.prog e l := by
  induction l with
  | nil => cases h
  | cons y l ih =>
    simp only [DataW.weightsAll, List.mem_append]
    rcases List.mem_cons.1 h with rfl | h
    · exact .inl hx
    · exact .inr (ih h)
structure Sizes (l : List Rw) (N : Nat) : Prop where
  files : l.length * 56 ≤ N
  name : ∀ r ∈ l, r.name.size ≤ N
  safe : ∀ r ∈ l, r.safe.size ≤ N
  opens : ∀ r ∈ l, r.opens.length * 24 ≤ N
  bytes : ∀ r ∈ l, ∀ x ∈ r.opens, x.bytes.size ≤ N
theorem wr_weights {x : Wr} {d : DataW H} (h : ReadWr x d) : x.bytes.size ∈ d.weights Try.prog 37 := by
  rw [h.1]
  simp [DataW.weights, Try.underlying37, DataW.weightsEach]
theorem wrs_sizes {l : List Wr} {d : DataW H} {N : Nat} (h : ReadWrs l d) (hN : ∀ x ∈ d.weights Try.prog 33, x ≤ N) : l.length * 24 ≤ N ∧ ∀ x ∈ l, x.bytes.size ≤ N := by
  rcases h with ⟨_, rfl⟩ | ⟨elems, sp, rfl, hl, hel⟩
  · exact ⟨by simp, fun x hx => by cases hx⟩
  · simp only [DataW.weights, Try.underlying33, bytes37, List.mem_cons, List.mem_append] at hN
    refine ⟨?_, fun x hx => ?_⟩
    · have := hN _ (.inl rfl)
      rw [hl, Nat.add_mul] at this
      omega
    · obtain ⟨i, hi, rfl⟩ := List.getElem_of_mem hx
      obtain ⟨d, hd, hr⟩ := hel i hi
      exact hN _ (.inr (.inl (weightsAll_mem (List.mem_of_getElem? hd) (wr_weights hr))))
theorem disk_sizes {l : List Rw} {d : DataW H} {N : Nat} (h : ReadDisk w l d) (hN : ∀ x ∈ d.weights Try.prog 24, x ≤ N) : Sizes l N := by
  obtain ⟨df, rfl, h⟩ := h
  have hN2 : ∀ x ∈ df.weights Try.prog 22, x ≤ N := fun x hx => hN x (by simp [DataW.weights, Try.underlying24, DataW.weightsEach, hx])
  rcases h with ⟨_, rfl⟩ | ⟨elems, sp, rfl, hl, hel⟩
  · refine ⟨by simp, ?_, ?_, ?_, ?_⟩ <;> intro r hr <;> cases hr
  · simp only [DataW.weights, Try.underlying22, bytes35, List.mem_cons, List.mem_append] at hN2
    have key : ∀ r ∈ l, r.name.size ≤ N ∧ r.safe.size ≤ N ∧ r.opens.length * 24 ≤ N ∧ ∀ x ∈ r.opens, x.bytes.size ≤ N := fun r hr => by
      obtain ⟨i, hi, rfl⟩ := List.getElem_of_mem hr
      obtain ⟨d, hd, dn, ds, dw, rfl, rfl, rfl, _, _, hw, _⟩ := hel i hi
      have hm : ∀ x ∈ (DataW.agg [.lit (.string l[i].name.data.toList), .lit (.string l[i].safe.data.toList), dw] : DataW H).weights Try.prog 35, x ≤ N := fun x hx =>
        hN2 _ (.inr (.inl (weightsAll_mem (List.mem_of_getElem? hd) hx)))
      simp only [DataW.weights, Try.underlying35, DataW.weightsEach, List.mem_append, List.map_cons, List.map_nil, List.mem_cons, List.not_mem_nil, or_false] at hm
      obtain ⟨h1, h2⟩ := wrs_sizes hw fun x hx => hm x (.inr (.inr hx))
      exact ⟨by have := hm _ (.inl rfl); rwa [len_eq] at this, by have := hm _ (.inr (.inl rfl)); rwa [len_eq] at this, h1, h2⟩
    refine ⟨?_, fun r hr => (key r hr).1, fun r hr => (key r hr).2.1, fun r hr => (key r hr).2.2.1, fun r hr => (key r hr).2.2.2⟩
    have := hN2 _ (.inl rfl)
    rw [hl, Nat.add_mul] at this
    omega
theorem Sizes.okay {l : List Rw} {N : Nat} (h : Sizes l N) (hN : N ≤ 140737488355328) : Okay l := fun r hr =>
  ⟨by have := h.safe r hr; omega, fun x hx => by have := h.bytes r hr x hx; omega, by have := h.opens r hr; omega⟩
end
end Go.Proofs.Ytfpdfhncifcghaa
