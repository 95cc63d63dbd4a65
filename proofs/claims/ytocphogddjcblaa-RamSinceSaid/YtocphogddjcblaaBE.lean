/- RamPuts, the given statement: bytes are put into the memory that is pointed at, and leaves laid, as the document says: for every input, with no condition. -/
import Derived.Test.YtocphogddjcblaaBD
import Derived.Test.YtocphogddjcblaaN
import Derived.Deep.Slices
namespace Go.Proofs.Ytocphogddjcblaa
open Go.RowKit Go.Deep Go.Joins Go.WideShapes Go.ChangeShapes Go.ChangeAt
theorem cells64 : Try.prog.cellsOf 64 = 2 := by kernel_rfl
theorem cells3 : Try.prog.cellsOf 3 = 1 := by kernel_rfl
theorem cells9 : Try.prog.cellsOf 9 = 1 := by kernel_rfl
section
variable {H : Type} {enc : TypeId × Value → H} {w : World} {base : Nat} {spare : Nat → Bool} {held : Bool}
theorem flat_get {α : Type} (c : α → List Value) (size : Nat) (hc : ∀ a, (c a).length = size) (l : List α) : ∀ (j : Nat) (u : Value), (l.flatMap c)[j]? = some u → ∃ i r, j = i * size + r ∧ ∃ h : i < l.length, (c l[i])[r]? = some u := by
  induction l with
  | nil => intro j u h; simp at h
  | cons x l ih =>
    intro j u h
    rw [List.flatMap_cons] at h
    by_cases hj : j < (c x).length
    · rw [List.getElem?_append_left hj] at h
      exact ⟨0, j, by omega, by simp, h⟩
    · rw [List.getElem?_append_right (by omega)] at h
      obtain ⟨i, r, h1, h2, h3⟩ := ih _ u h
      rw [hc] at h1 hj
      exact ⟨i + 1, r, by rw [Nat.add_mul]; omega, by simp; omega, h3⟩
theorem flat_length {α : Type} (c : α → List Value) (size : Nat) (hc : ∀ a, (c a).length = size) (l : List α) : (l.flatMap c).length = l.length * size := by
  induction l with
  | nil => simp
  | cons x l ih => rw [List.flatMap_cons, List.length_append, ih, hc, List.length_cons, Nat.add_mul]; omega
theorem open_list {α : Type} [Inhabited α] {t e : TypeId} {fuel : Nat} {v : Value} {x : DataW H × List MemPlace} (size : Nat) (c : α → List Value) (ht : Try.prog.underlying t = some (.slice e)) (hsz : Try.prog.cellsOf e = size)
    (hc : ∀ a, (c a).length = size) (h : DataW.trod enc Try.prog w base spare held fuel t [v] = some x)
    (helem : ∀ n cs y, DataW.trod enc Try.prog w base spare held n e cs = some y → ∃ a, cs = c a) :
    ∃ l : List α, Reads w v size l.length (l.flatMap c) := by
  rcases open_slice ht h with ⟨hcs, hx⟩ | ⟨a, len, cap, m, n, D, Pl, hcs, hb, hl, hm, hmm, hx, hel⟩
  · exact ⟨[], ⟨by simp, .inl ⟨by simpa using hcs, rfl⟩⟩⟩
  · have hlm : len ≤ m := by rw [hmm]; split <;> omega
    have hex : ∀ i, i < len → ∃ y : α, w.cells? base (a.add (i * size)) size = some (c y) := fun i hi => by
      obtain ⟨cs', h1, h2⟩ := hel i (by omega)
      rw [hsz] at h1
      obtain ⟨y, h3⟩ := helem _ _ _ h2
      exact ⟨y, h3 ▸ h1⟩
    obtain ⟨f, hf⟩ := choose_lt hex
    have hll : ((List.range len).map f).length = len := by simp
    refine ⟨(List.range len).map f, ⟨flat_length c size hc _, .inr ⟨a, cap, by rw [hll]; simpa using hcs, by rw [hll]; exact hl, hm, fun j u hu => ?_⟩⟩⟩
    obtain ⟨i, r, rfl, hi, hr⟩ := flat_get c size hc _ j u hu
    rw [hll] at hi
    simp only [List.getElem_map, List.getElem_range] at hr
    have h1 := hf i hi
    have hs := World.cells?_some h1
    have hr2 : r < size := by have := (List.getElem?_eq_some_iff.1 hr).1; rw [hc] at this; exact this
    rw [← add_add]
    have := hs.2.2 r hr2
    rw [this]; exact hr
instance : Inhabited Pc := ⟨⟨0, .empty⟩⟩
theorem elem_pc (n : Nat) (cs : List Value) (y : DataW H × List MemPlace) (h : DataW.trod enc Try.prog w base spare held n 64 cs = some y) : ∃ a : Pc, cs = [.int .i64 a.leaf, .string a.bytes] := by
  obtain ⟨y0, y1, n, rfl, hl, h0, h1⟩ := trod_struct2 Try.underlying64 h
  rw [cells64] at hl
  match cs, hl with
  | [a, b], _ =>
    obtain ⟨p, e0, rfl, hw⟩ := DataW.trod_int Try.underlying3 h0
    obtain ⟨s, e1, rfl, hs⟩ := DataW.trod_string Try.underlying9 h1
    simp [cells3] at e0
    simp [cells9] at e1
    subst e0 e1
    exact ⟨⟨p, s⟩, rfl⟩
theorem open_pieces {r : Reach} {b0 : Nat} {v : Value} {d : DataW H} {p : List MemPlace} (hv : Value.okWide Try.prog w r b0 42 v) (h : DataW.Trod enc Try.prog w base spare held 42 v d p) : ∃ L : List Pc, PAt w v L := by
  obtain ⟨a0, len, cap, rfl⟩ := okWide_slice Try.underlying42 hv
  obtain ⟨fuel, hf⟩ := h
  obtain ⟨l, hr⟩ := open_list 2 (fun x : Pc => [.int .i64 x.leaf, .string x.bytes]) Try.underlying42 cells64 (fun _ => rfl) (by simpa [Value.cells] using hf) elem_pc
  exact ⟨l, hr⟩
end
set_option maxRecDepth 100000 in
theorem puts_lifted (os : Os) (started : os.Started) (H : Type) (enc : TypeId × Value → H) :
    ReturnsInHanded {} Try.checked os 4 .any (Rows.ramPutsSpec.pre6 enc Try.prog Try.f4 Rows.ramPutsRow.domain false) (Rows.ramPutsSpec.post enc Try.prog Try.f4 false true false false) := by
  refine returnsInHanded_of_change_sized (C := Try.checked) own started (by kernel_rfl) Try.func4
    (ChangeSpec.witness6 (enc := enc) (C := Try.checked) false ⟨#[], #[.agg #[.slice none 0 0, .slice none 0 0, .int .u64 0], .agg #[.int .u64 0, .int .i64 0, .int .u64 0, .string ⟨#[]⟩], .slice none 0 0], []⟩ 8 (by kernel_rfl) (by kernel_rfl) (by kernel_rfl) (by kernel_rfl)) ?_
  intro W base args ds gs before hval0 hW hcnd hsz _
  have hW' := hW
  obtain ⟨p, q, hA0, hV, rfl, hfz, hnd⟩ := hW
  have hval : ∀ (j : Nat) t v, Try.f4.params[j]? = some t → args[j]? = some v → Value.okWide Try.prog W .any base t v := hval0
  have hA : DataW.TrodAll enc Try.prog W 0 (fun _ => true) true Try.f4.params.toList args.toList ds p := hA0
  rw [Try.params4] at hA hval
  obtain ⟨v0, v1, v2, d0, d1, d2, p0, p1, p2, rfl, rfl, rfl, h0, h1, h2⟩ := trodAll_three hA
  obtain ⟨rfl, rfl⟩ := trodVars_none hV
  have hlt : ∀ x ∈ p0 ++ (p1 ++ p2), x.block < W.heap.size := fun x hx => hW'.lt x (by simpa using hx)
  obtain ⟨dv, mv, E, D, M, hr, hwt⟩ := open_ram (hval 0 26 v0 rfl rfl) h0
  obtain ⟨t, size, x, s, hs⟩ := open_spot (hval 1 28 v1 rfl rfl) h1
  obtain ⟨L, hL⟩ := open_pieces (hval 2 42 v2 rfl rfl) h2
  have hN : ∀ x ∈ d0.weights Try.prog 26, x ≤ 140737488351232 := fun x hx => by
    have := List.all_eq_true.1 hsz x (by
      show x ∈ DataW.weightsEach Try.prog (Try.f4.params.toList ++ _) _
      rw [Try.params4]
      simp [DataW.weightsEach, hx])
    exact of_decide_eq_true this
  obtain ⟨hD, hM⟩ := hwt _ hN
  obtain rfl := hr.is
  obtain rfl := hs.is
  obtain ⟨xn, rfl⟩ : ∃ xn : Nat, x = xn := ⟨x.toNat, by have := hs.x0; omega⟩
  simp only [List.append_nil] at hW'
  refine (puts_any dv mv v2 E D M L t size xn s W hr.d hr.m hL hD (by omega) hs.t0 hs.t1 (by have := hs.x1; omega) hs.s).mono fun e W' ⟨he, hb⟩ => ?_
  subst he
  refine ⟨_, rfl, _, _, _, [], p0 ++ (p1 ++ p2), [], hW', trodAll_mk1 (shut_bool Try.underlying4 _), trodAll_mk3 (Below.trod laidOut (by kernel_rfl) (of_decide_eq_true (by kernel_rfl)) h0 hb fun x hx => hlt x (by simp [hx])) (Below.trod laidOut (by kernel_rfl) (of_decide_eq_true (by kernel_rfl)) h1 hb fun x hx => hlt x (by simp [hx])) (Below.trod laidOut (by kernel_rfl) (of_decide_eq_true (by kernel_rfl)) h2 hb fun x hx => hlt x (by simp [hx])), rfl, hb.frame _, fun h => by cases h⟩

theorem puts_over : Rows.ramPutsRow.holds Try.pinned (OpenSpec.ofChange Rows.ramPutsSpec) :=
  OpenClaim.holds_of_wide 4 Try.f4 rfl rfl rfl rfl rfl rfl rfl ⟨rfl, rfl, rfl, rfl, rfl⟩ rfl rfl rfl rfl rfl (by kernel_rfl) Try.func4 (by kernel_rfl)
    (of_decide_eq_true (by kernel_rfl)) (by unfold Func.isWrapper; first | (rw [if_pos (by decide +kernel)]; kernel_rfl) | (rw [if_neg (by decide +kernel)]; exact ⟨rfl, rfl⟩))
    (fun os started H enc _ => puts_lifted os started H enc)

/-- The given statement. -/
theorem puts_proved : Rows.RamPutsSaid := puts_over
end Go.Proofs.Ytocphogddjcblaa
