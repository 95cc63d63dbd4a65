/- The arguments, opened: a disk, records; what the bound gives. -/
import Derived.Test.YtkecjopojnllnaaSN
import Derived.Deep.Slices
import Derived.Deep.Strs
import Derived.Lib.SmallJoins
import Derived.SizedLaws
import Derived.Carry
import Derived.JoinedCond
import Derived.ChangeMaps
namespace Go.Proofs.Ytkecjopojnllnaa
open Go.RowKit Go.Deep Go.Joins Go.WideShapes Go.ChangeShapes
theorem own : ownKnob Try.prog.godebug = none := by kernel_rfl
theorem laidOut : laidOutB Try.prog = true := by kernel_rfl
set_option maxRecDepth 100000
section
variable {H : Type} {enc : TypeId × Value → H} {w : World} {base : Nat} {spare : Nat → Bool} {held : Bool}
theorem flat_get {α : Type} (c : α → List Value) (size : Nat) (hc : ∀ a, (c a).length = size) (l : List α) : ∀ (j : Nat) (u : Value), (l.flatMap c)[j]? = some u → ∃ i r, j = i * size + r ∧ ∃ h : i < l.length, (c l[i])[r]? = some u := by
  induction l with
  | nil => intro j u h; simp at h
  | cons x l ih =>
    intro j u h
    rw [List.flatMap_cons] at h
    by_cases hj : j < (c x).length
    · rw [List.getElem?_append_left hj] at h
      exact ⟨0, j, by omega, by simp, h⟩
    · rw [List.getElem?_append_right (by omega)] at h
      obtain ⟨i, r, h1, h2, h3⟩ := ih _ u h
      rw [hc] at h1 hj
      exact ⟨i + 1, r, by rw [Nat.add_mul]; omega, by simp; omega, h3⟩
theorem flat_length {α : Type} (c : α → List Value) (size : Nat) (hc : ∀ a, (c a).length = size) (l : List α) : (l.flatMap c).length = l.length * size := by
  induction l with
  | nil => simp
  | cons x l ih => rw [List.flatMap_cons, List.length_append, ih, hc, List.length_cons, Nat.add_mul]; omega

theorem open_list {α : Type} [Inhabited α] {t e : TypeId} {fuel : Nat} {v : Value} {x : DataW H × List MemPlace} (size : Nat) (c : α → List Value) (R : α → DataW H → Prop) (ht : Try.prog.underlying t = some (.slice e)) (hsz : Try.prog.cellsOf e = size)
    (hc : ∀ a, (c a).length = size) (h : DataW.trod enc Try.prog w base spare held fuel t [v] = some x)
    (helem : ∀ n cs y, DataW.trod enc Try.prog w base spare held n e cs = some y → ∃ a, cs = c a ∧ R a y.1) :
    ∃ l : List α, Reads w v size l.length (l.flatMap c) ∧ ((x.1 = .nil ∧ l = []) ∨ ∃ elems sp, x.1 = .slice elems sp ∧ elems.length = l.length ∧ ∀ i (hi : i < l.length), ∃ d, elems[i]? = some d ∧ R l[i] d) := by
  rcases open_slice ht h with ⟨hcs, hx⟩ | ⟨a, len, cap, m, n, D, Pl, hcs, hb, hl, hm, hmm, hx, hel⟩
  · refine ⟨[], ⟨by simp, .inl ⟨by simpa using hcs, rfl⟩⟩, .inl ⟨by rw [hx], rfl⟩⟩
  · have hlm : len ≤ m := by rw [hmm]; split <;> omega
    have hex : ∀ i, i < len → ∃ y : α, w.cells? base (a.add (i * size)) size = some (c y) ∧ R y (D i) := fun i hi => by
      obtain ⟨cs', h1, h2⟩ := hel i (by omega)
      rw [hsz] at h1
      obtain ⟨y, h3, h4⟩ := helem _ _ _ h2
      exact ⟨y, h3 ▸ h1, h4⟩
    obtain ⟨f, hf⟩ := choose_lt hex
    have hll : ((List.range len).map f).length = len := by simp
    refine ⟨(List.range len).map f, ⟨flat_length c size hc _, .inr ⟨a, cap, by rw [hll]; simpa using hcs, by rw [hll]; exact hl, hm, fun j u hu => ?_⟩⟩, .inr ⟨(List.range len).map D, _, by rw [hx], by simp, fun i hi => ?_⟩⟩
    · obtain ⟨i, r, rfl, hi, hr⟩ := flat_get c size hc _ j u hu
      rw [hll] at hi
      simp only [List.getElem_map, List.getElem_range] at hr
      obtain ⟨h1, _⟩ := hf i hi
      have hs := World.cells?_some h1
      have hr2 : r < size := by have := (List.getElem?_eq_some_iff.1 hr).1; rw [hc] at this; exact this
      rw [← add_add]
      have := hs.2.2 r hr2
      rw [this]; exact hr
    · rw [hll] at hi
      exact ⟨D i, by simp [hi], by simpa using (hf i hi).2⟩
theorem cells76 : Try.prog.cellsOf 76 = 2 := by kernel_rfl
theorem cells58 : Try.prog.cellsOf 58 = 3 := by kernel_rfl
theorem cells24 : Try.prog.cellsOf 24 = 1 := by kernel_rfl
theorem cells3 : Try.prog.cellsOf 3 = 1 := by kernel_rfl
theorem cells9 : Try.prog.cellsOf 9 = 1 := by kernel_rfl
theorem cells56 : Try.prog.cellsOf 56 = 1 := by kernel_rfl
theorem cells22 : Try.prog.cellsOf 22 = 1 := by kernel_rfl
def ReadWr (x : Wr) (d : DataW H) : Prop := d = .agg [.lit (.int .i64 x.pos), .lit (.string x.bytes.data.toList)] ∧ x.bytes.size ≤ maxLen ∧ (Lit.int .i64 x.pos).wf = true
instance : Inhabited Wr := ⟨⟨0, .empty⟩⟩
instance : Inhabited Rw := ⟨⟨.empty, .empty, .nilFunc, []⟩⟩
theorem elem_wr (n : Nat) (cs : List Value) (y : DataW H × List MemPlace) (h : DataW.trod enc Try.prog w base spare held n 76 cs = some y) : ∃ a : Wr, cs = [.int .i64 a.pos, .string a.bytes] ∧ ReadWr a y.1 := by
  obtain ⟨y0, y1, n, rfl, hl, h0, h1⟩ := trod_struct2 Try.underlying76 h
  rw [cells76] at hl
  match cs, hl with
  | [a, b], _ =>
    obtain ⟨p, e0, rfl, hw⟩ := DataW.trod_int Try.underlying3 h0
    obtain ⟨s, e1, rfl, hs⟩ := DataW.trod_string Try.underlying9 h1
    simp [cells3] at e0
    simp [cells9] at e1
    subst e0 e1
    exact ⟨⟨p, s⟩, rfl, rfl, hs, hw⟩
/-- A row of open writes as data. -/
def ReadWrs (l : List Wr) (d : DataW H) : Prop := (d = .nil ∧ l = []) ∨ ∃ elems sp, d = .slice elems sp ∧ elems.length = l.length ∧ ∀ i (hi : i < l.length), ∃ d, elems[i]? = some d ∧ ReadWr l[i] d
def ReadRw (w : World) (r : Rw) (d : DataW H) : Prop := ∃ dn ds dw, d = .agg [dn, ds, dw] ∧ dn = .lit (.string r.name.data.toList) ∧ ds = .lit (.string r.safe.data.toList) ∧ r.name.size ≤ maxLen ∧ r.safe.size ≤ maxLen ∧ ReadWrs r.opens dw ∧ Reads w r.ov 2 r.opens.length (wrCells r.opens)
theorem elem_rw (n : Nat) (cs : List Value) (y : DataW H × List MemPlace) (h : DataW.trod enc Try.prog w base spare held n 58 cs = some y) : ∃ a : Rw, cs = [.string a.name, .string a.safe, a.ov] ∧ ReadRw w a y.1 := by
  obtain ⟨y0, y1, y2, n, rfl, hl, h0, h1, h2⟩ := trod_struct3 Try.underlying58 h
  rw [cells58] at hl
  match cs, hl with
  | [a, b, c], _ =>
    obtain ⟨nm, e0, rfl, hn⟩ := DataW.trod_string Try.underlying9 h0
    obtain ⟨sf, e1, rfl, hs⟩ := DataW.trod_string Try.underlying9 h1
    simp [cells9] at e0 e1
    subst e0 e1
    have h2' : DataW.trod enc Try.prog w base spare held n 56 [c] = some y2 := by simpa [cells56] using h2
    obtain ⟨ws, hr, hw⟩ := open_list 2 (fun x : Wr => [.int .i64 x.pos, .string x.bytes]) ReadWr Try.underlying56 cells76 (fun _ => rfl) h2' elem_wr
    exact ⟨⟨nm, sf, c, ws⟩, rfl, _, _, _, rfl, rfl, rfl, hn, hs, hw, hr⟩
/-- A disk as data. -/
def ReadDisk (w : World) (l : List Rw) (d : DataW H) : Prop := ∃ df, d = .agg [df] ∧ ((df = .nil ∧ l = []) ∨ ∃ elems sp, df = .slice elems sp ∧ elems.length = l.length ∧ ∀ i (hi : i < l.length), ∃ d, elems[i]? = some d ∧ ReadRw w l[i] d)
theorem open_disk {r : Reach} {b0 : Nat} {v : Value} {d : DataW H} {p : List MemPlace} (hv : Value.okWide Try.prog w r b0 24 v) (h : DataW.Trod enc Try.prog w base spare held 24 v d p) :
    ∃ (fv : Value) (l : List Rw), v = .agg #[fv] ∧ Reads w fv 3 l.length (rowCells l) ∧ ReadDisk w l d := by
  obtain ⟨cs, rfl, hsz⟩ := okWide_struct Try.underlying24 hv
  rw [cells24] at hsz
  obtain ⟨fuel, h⟩ := h
  have h' : DataW.trod enc Try.prog w base spare held fuel 24 cs.toList = some (d, p) := h
  obtain ⟨y0, n, hx, hl, h0⟩ := trod_struct1 Try.underlying24 h'
  obtain ⟨c, rfl⟩ : ∃ c, cs = #[c] := by
    match cs, hsz with
    | ⟨[c]⟩, _ => exact ⟨c, rfl⟩
  have h0' : DataW.trod enc Try.prog w base spare held n 22 [c] = some y0 := by simpa [cells22] using h0
  obtain ⟨l, hr, hd⟩ := open_list 3 (fun x : Rw => [.string x.name, .string x.safe, x.ov]) (ReadRw w) Try.underlying22 cells58 (fun _ => rfl) h0' elem_rw
  simp only [Prod.mk.injEq] at hx
  exact ⟨c, l, rfl, hr, y0.1, hx.1, hd⟩
theorem ReadDisk.opens {l : List Rw} {d : DataW H} (h : ReadDisk w l d) : Opens w l := by
  obtain ⟨df, _, h⟩ := h
  rcases h with ⟨_, rfl⟩ | ⟨elems, sp, _, _, hel⟩
  · intro r hr; cases hr
  · intro r hr
    obtain ⟨i, hi, rfl⟩ := List.getElem_of_mem hr
    obtain ⟨d, _, _, _, _, _, _, _, _, _, _, h⟩ := hel i hi
    exact h
theorem bulk_pos (d : DataW H) : 1 ≤ Rows.uptoBulk d := by
  cases d with
  | lit l => cases l <;> simp [Rows.uptoBulk]
  | nil => simp [Rows.uptoBulk]
  | ptr d => simp [Rows.uptoBulk]
  | slice elems spare => simp [Rows.uptoBulk]
  | agg parts => simp [Rows.uptoBulk]
  | iface t d => simp [Rows.uptoBulk]
  | map entries => simp [Rows.uptoBulk]
  | held h => simp [Rows.uptoBulk]
theorem bulk_mem {d : DataW H} {l : List (DataW H)} (h : d ∈ l) : Rows.uptoBulk d ≤ Rows.uptoBulkAll l := by
  induction l with
  | nil => cases h
  | cons x r ih =>
    simp only [Rows.uptoBulkAll]
    rcases List.mem_cons.1 h with rfl | h
    · omega
    · have := ih h; omega
theorem bulk_len (l : List (DataW H)) : l.length ≤ Rows.uptoBulkAll l := by
  induction l with
  | nil => simp [Rows.uptoBulkAll]
  | cons x r ih => have := bulk_pos x; simp only [Rows.uptoBulkAll, List.length_cons]; omega
/-- A list as data: its length, and each element's bulk. -/
theorem bulk_list {α : Type} {R : α → DataW H → Prop} {l : List α} {d : DataW H} (h : (d = .nil ∧ l = []) ∨ ∃ elems sp, d = .slice elems sp ∧ elems.length = l.length ∧ ∀ i (hi : i < l.length), ∃ d, elems[i]? = some d ∧ R l[i] d) :
    l.length ≤ Rows.uptoBulk d ∧ ∀ a ∈ l, ∃ e, R a e ∧ Rows.uptoBulk e ≤ Rows.uptoBulk d := by
  rcases h with ⟨rfl, rfl⟩ | ⟨elems, sp, rfl, hl, hel⟩
  · exact ⟨Nat.zero_le _, fun a h => by cases h⟩
  · have h1 := bulk_len elems
    refine ⟨by simp only [Rows.uptoBulk]; omega, fun a ha => ?_⟩
    obtain ⟨i, hi, rfl⟩ := List.getElem_of_mem ha
    obtain ⟨e, he, hr⟩ := hel i hi
    have := bulk_mem (List.mem_of_getElem? he)
    exact ⟨e, hr, by simp only [Rows.uptoBulk]; omega⟩
theorem bulk_wr {x : Wr} {d : DataW H} (h : ReadWr x d) : x.bytes.size ≤ Rows.uptoBulk d := by
  rw [h.1]
  simp only [Rows.uptoBulk, Rows.uptoBulkAll, len_eq]
  omega
theorem bulk_rw {r : Rw} {d : DataW H} (h : ReadRw w r d) : r.safe.size ≤ Rows.uptoBulk d ∧ r.name.size ≤ Rows.uptoBulk d ∧ r.opens.length ≤ Rows.uptoBulk d ∧ ∀ x ∈ r.opens, x.bytes.size ≤ Rows.uptoBulk d := by
  obtain ⟨dn, ds, dw, rfl, rfl, rfl, _, _, hw, _⟩ := h
  obtain ⟨h1, h2⟩ := bulk_list hw
  simp only [Rows.uptoBulk, Rows.uptoBulkAll, len_eq]
  refine ⟨by omega, by omega, by omega, fun x hx => ?_⟩
  obtain ⟨e, h3, h4⟩ := h2 x hx
  have := bulk_wr h3
  omega
theorem bulk_disk {l : List Rw} {d : DataW H} (h : ReadDisk w l d) : l.length ≤ Rows.uptoBulk d ∧ ∀ r ∈ l, r.safe.size ≤ Rows.uptoBulk d ∧ r.name.size ≤ Rows.uptoBulk d ∧ r.opens.length ≤ Rows.uptoBulk d ∧ ∀ x ∈ r.opens, x.bytes.size ≤ Rows.uptoBulk d := by
  obtain ⟨df, rfl, h⟩ := h
  obtain ⟨h1, h2⟩ := bulk_list h
  simp only [Rows.uptoBulk, Rows.uptoBulkAll]
  refine ⟨by omega, fun r hr => ?_⟩
  obtain ⟨e, h3, h4⟩ := h2 r hr
  obtain ⟨k1, k2, k3, k4⟩ := bulk_rw h3
  exact ⟨by omega, by omega, by omega, fun x hx => by have := k4 x hx; omega⟩
theorem smalls_bulk {l : List Rw} {d : DataW H} (h : ReadDisk w l d) (hN : Rows.uptoBulk d ≤ 1048576) : Smalls l := by
  obtain ⟨h1, h2⟩ := bulk_disk h
  intro r hr
  obtain ⟨k1, k2, k3, k4⟩ := h2 r hr
  exact ⟨by omega, by omega, fun x hx => by have := k4 x hx; omega⟩
def ReadStr (s : ByteArray) (d : DataW H) : Prop := d = .lit (.string s.data.toList)
instance : Inhabited ByteArray := ⟨.empty⟩
theorem strs_flat (l : List ByteArray) : strs l = l.flatMap fun s => [Value.string s] := by
  induction l with
  | nil => rfl
  | cons b l ih => rw [List.flatMap_cons, ← ih]; rfl
theorem open_recs {r : Reach} {b0 : Nat} {v : Value} {d : DataW H} {p : List MemPlace} (hv : Value.okWide Try.prog w r b0 27 v) (h : DataW.Trod enc Try.prog w base spare held 27 v d p) :
    ∃ R : List ByteArray, Reads w v 1 R.length (strs R) ∧ R.length ≤ Rows.uptoBulk d ∧ ∀ s ∈ R, s.size ≤ Rows.uptoBulk d := by
  obtain ⟨a, len, cap, rfl⟩ := okWide_slice Try.underlying27 hv
  obtain ⟨fuel, h⟩ := h
  have h' : DataW.trod enc Try.prog w base spare held fuel 27 [.slice a len cap] = some (d, p) := h
  obtain ⟨R, hr, hd⟩ := open_list 1 (fun s : ByteArray => [Value.string s]) ReadStr Try.underlying27 cells9 (fun _ => rfl) h' (fun n cs y hy => by
    obtain ⟨s, e, hy2, _⟩ := DataW.trod_string Try.underlying9 hy
    exact ⟨s, e, by rw [hy2]; rfl⟩)
  obtain ⟨h1, h2⟩ := bulk_list hd
  rw [← strs_flat] at hr
  refine ⟨R, hr, h1, fun s hs => ?_⟩
  obtain ⟨e, h3, h4⟩ := h2 s hs
  rw [h3] at h4
  simp only [Rows.uptoBulk, len_eq] at h4
  omega
end
theorem trodAll_five {H : Type} {enc : TypeId × Value → H} {P : Program} {w : World} {base : Nat} {spare : Nat → Bool} {held : Bool} {t t' t'' t3 t4 : TypeId} {args : Array Value} {ds : List (DataW H)} {ps : List MemPlace} (h : DataW.TrodAll enc P w base spare held [t, t', t'', t3, t4] args.toList ds ps) :
    ∃ v v' v'' v3 v4 d d' d'' d3 d4 p p' p'' p3 p4, args = #[v, v', v'', v3, v4] ∧ ds = [d, d', d'', d3, d4] ∧ ps = p ++ p' ++ p'' ++ p3 ++ p4 ∧ DataW.Trod enc P w base spare held t v d p ∧ DataW.Trod enc P w base spare held t' v' d' p' ∧ DataW.Trod enc P w base spare held t'' v'' d'' p'' ∧ DataW.Trod enc P w base spare held t3 v3 d3 p3 ∧ DataW.Trod enc P w base spare held t4 v4 d4 p4 := by
  obtain ⟨v, vs, d, ds', p, q, hargs, rfl, rfl, hd, hrest⟩ := trodAll_cons h
  obtain ⟨v', vs', d', ds'', p', q', rfl, rfl, rfl, hd', hrest'⟩ := trodAll_cons hrest
  obtain ⟨v'', vs'', d'', dsc, p'', q'', rfl, rfl, rfl, hd'', hrest''⟩ := trodAll_cons hrest'
  obtain ⟨v3, vs3, d3, ds3, p3, q3, rfl, rfl, rfl, hd3, hrest3⟩ := trodAll_cons hrest''
  obtain ⟨v4, vs4, d4, ds4, p4, q4, rfl, rfl, rfl, hd4, hrest4⟩ := trodAll_cons hrest3
  obtain ⟨rfl, rfl, rfl⟩ := trodAll_nil hrest4
  exact ⟨v, v', v'', v3, v4, d, d', d'', d3, d4, p, p', p'', p3, p4, by cases args; simp_all, rfl, by simp, hd, hd', hd'', hd3, hd4⟩
end Go.Proofs.Ytkecjopojnllnaa
