/- Laws of no program: a row of bytes whose run-time mark lies behind its last cell (what '[]byte(s)' makes): append of a byte, copy of a string into it, and back to a string. -/
import Derived.Test.YtfpdfhncifcghaaRc
import Derived.Laws.IdiomStrings
namespace Go
open Go.RowKit

/-- Cells stored one behind the other into a row none of whose cells is frozen. -/
theorem stored_free (P : Program) (g o : Nat) (t : TypeId) (fz : Nat × Nat) (vs : List Value) : ∀ (i : Nat) (cur : Array Value) (w : World), w.heap[g]? = some (.cells cur t fz) → (∀ j, j < cur.size → ¬ (fz.1 ≤ j ∧ j < fz.2)) → o + i + vs.length ≤ cur.size → (∀ v ∈ vs, v.oneCell' = true) →
    ∃ (w' : World) (new : Array Value), (storeCells ⟨g, o, none⟩ vs i).run P w = .ok () w' ∧ w'.heap[g]? = some (.cells new t fz) ∧ new.size = cur.size ∧ (∀ j, new[j]? = if o + i ≤ j ∧ j < o + i + vs.length then vs[j - (o + i)]? else cur[j]?) ∧ w.grownBy w' (some g) := by
  induction vs with
  | nil =>
    intro i cur w hg _ _ _
    refine ⟨w, cur, rfl, hg, rfl, fun j => ?_, ⟨rfl, rfl, rfl, Nat.le_refl _, fun _ _ _ => rfl⟩⟩
    rw [if_neg (by simp)]
  | cons v rest ih =>
    intro i cur w hg hfree hfit h1
    simp only [List.length_cons] at hfit
    have hcell : w.cell? ⟨g, o + i, none⟩ = some (cur[o + i]'(by omega)) := by
      rw [cell_of_row w g _ _ t fz hg]
      exact Array.getElem?_eq_getElem _
    have hfro : w.frozen? ⟨g, o + i, none⟩ = false := by
      obtain ⟨lo, up⟩ := fz
      have := hfree (o + i) (by omega)
      simp only [World.frozen?, hg]
      by_cases h1 : lo ≤ o + i
      · by_cases h2 : o + i < up
        · exact absurd ⟨h1, h2⟩ this
        · simp [h2]
      · simp [h1]
    have hrun : (store ((⟨g, o, none⟩ : Addr).add i) v).run P w = .ok () (w.setCell ⟨g, o + i, none⟩ v) := by
      rw [Proofs.Ytfpdfhncifcghaa.add_lit, run_store P w _ v _ (h1 v (by simp)), hcell]
      simp [hfro]
    have hnew : (w.setCell ⟨g, o + i, none⟩ v).heap[g]? = some (.cells (cur.setIfInBounds (o + i) v) t fz) := by
      rw [setCell_eq_setRow w g _ cur t fz v hg]
      exact setRow_heap w g cur _ t fz hg
    obtain ⟨w', new, k1, k2, k3, k4, k5⟩ := ih (i + 1) (cur.setIfInBounds (o + i) v) _ hnew (by simpa using hfree) (by simp; omega) fun u hu => h1 u (by simp [hu])
    refine ⟨w', new, ?_, k2, by simpa using k3, fun j => ?_, ⟨k5.os, k5.tape, k5.output, by have := k5.size; simp [World.setCell] at this ⊢; omega, fun k hk hne => (k5.block k (by simp [World.setCell]; omega) hne).trans (heap_setCell_other w _ k v (fun e => hne (by simp [e])))⟩⟩
    · simp [storeCells, hrun, k1]
    · rw [k4 j]
      by_cases e0 : j = o + i
      · subst e0
        rw [if_neg (by omega), if_pos (by simp), Array.getElem?_setIfInBounds_self_of_lt (by omega)]
        simp
      · by_cases e1 : o + (i + 1) ≤ j ∧ j < o + (i + 1) + rest.length
        · rw [if_pos e1, if_pos (by simp only [List.length_cons]; omega)]
          obtain ⟨d, rfl⟩ : ∃ d, j = o + (i + 1) + d := ⟨j - (o + (i + 1)), by omega⟩
          rw [show o + (i + 1) + d - (o + (i + 1)) = d by omega, show o + (i + 1) + d - (o + i) = d + 1 by omega]
          rfl
        · rw [if_neg e1, if_neg (by simp only [List.length_cons]; omega), Array.getElem?_setIfInBounds_ne (by omega)]

/-- A row of bytes, none of whose cells is frozen: the first of them are L. -/
def RowB (w : World) (g cap : Nat) (L : List UInt8) : Prop :=
  ∃ (cur : Array Value) (fz : Nat × Nat), w.heap[g]? = some (.cells cur 5 fz) ∧ (∀ j, j < cur.size → ¬ (fz.1 ≤ j ∧ j < fz.2)) ∧ cur.size = cap ∧ L.length ≤ cap ∧ ∀ j (h : j < L.length), cur[j]? = some (.int .u8 (L[j].toNat : Int))
theorem RowB.lt {w : World} {g cap : Nat} {L : List UInt8} (h : RowB w g cap L) : g < w.heap.size := by
  obtain ⟨cur, fz, h, _⟩ := h
  exact (Array.getElem?_eq_some_iff.1 h).1
theorem RowB.of_eq {w w' : World} {g cap : Nat} {L : List UInt8} (h : RowB w g cap L) (he : w'.heap[g]? = w.heap[g]?) : RowB w' g cap L := by
  obtain ⟨cur, fz, h0, r⟩ := h
  exact ⟨cur, fz, he.trans h0, r⟩
theorem RowB.cell {w : World} {g cap : Nat} {L : List UInt8} (h : RowB w g cap L) (j : Nat) (hj : j < L.length) : w.cell? ⟨g, j, none⟩ = some (.int .u8 (L[j].toNat : Int)) := by
  obtain ⟨cur, fz, h0, _, _, _, hc⟩ := h
  rw [cell_of_row w g j _ 5 fz h0]
  exact hc j hj
theorem run_bytes_row {P : Program} (w : World) (s : ByteArray) (src dst : TypeId) (hs : P.underlying src = some .string) (hd : P.underlying dst = some (.slice 5)) (he : P.underlying 5 = some (.int .u8)) :
    ∃ cap w', (convert src dst (.string s)).run P w = .ok (.slice (some ⟨w.heap.size, 0, none⟩) s.size cap) w' ∧ RowB w' w.heap.size cap s.data.toList ∧ w.grownBy w' none := by
  have hcap := grownCap_ge w s.size 0 5
  refine ⟨_, _, run_bytes_of_string w src dst 5 s hs hd he, ⟨_, _, heap_alloc_new w.drew _, ?_, ?_, ?_, fun j hj => ?_⟩, ⟨rfl, rfl, rfl, Nat.le_trans (Nat.le_succ w.heap.size) (Nat.le_of_eq (World.size_alloc w.drew _).symm), fun k hk _ => heap_alloc_old w.drew _ hk⟩⟩
  · intro j hj h
    exact absurd hj (by omega)
  · have : s.data.size = s.size := rfl
    simp only [bytesRow, Array.size_append, Array.size_map, Array.size_replicate]
    omega
  · have : s.data.toList.length = s.size := Proofs.Ytfpdfhncifcghaa.len_eq s
    omega
  · have : s.data.toList.length = s.size := Proofs.Ytfpdfhncifcghaa.len_eq s
    have hj' : j < s.data.size := by simpa using hj
    simp only [bytesRow]
    rw [Array.getElem?_append_left (by simpa using hj'), Array.getElem?_map, Array.getElem?_eq_getElem hj']
    rfl
theorem run_append_byte {P : Program} (w : World) (t ty : TypeId) (i : TypeInfo) (z : Value) (ht : P.underlying t = some (.slice 5)) (hi : P.info? 5 = some i) (hz : i.zero = some z) (hsize : i.size = 1) (hby : i.bytes = 1) (hzs : z.cells.size = 1)
    (g cap : Nat) (L : List UInt8) (hr : RowB w g cap L) (a : Addr) (b : UInt8) (ha : w.cell? a = some (.int .u8 (b.toNat : Int))) (hlen : L.length + 1 ≤ 140737488355328) :
    ∃ g' cap' w', (Builtin.append_ #[t, t] ty #[.slice (some ⟨g, 0, none⟩) L.length cap, .slice (some a) 1 1]).run P w = .ok (.slice (some ⟨g', 0, none⟩) (L.length + 1) cap') w' ∧ RowB w' g' cap' (L ++ [b]) ∧ (g' = g ∨ w.heap.size ≤ g') ∧ w.grownBy w' (some g) := by
  obtain ⟨cur, fz, h0, hfree, hcs, hLc, hc⟩ := hr
  have hnews : ∀ j v, ([.int .u8 (b.toNat : Int)] : List Value)[j]? = some v → w.cell? (a.add j) = some v := fun j v hv => by
    rcases j with _ | j
    · simp at hv
      subst hv
      rw [show a.add 0 = a by simp [Addr.add]]
      exact ha
    · simp at hv
  by_cases hroom : L.length + 1 ≤ cap
  · obtain ⟨w', new, k1, k2, k3, k4, k5⟩ := stored_free P g L.length 5 fz [.int .u8 (b.toNat : Int)] 0 cur w h0 hfree (by simp; omega) (by intro v hv; simp at hv; subst hv; rfl)
    have hf := run_firstCells_some (P := P) w 1 1 a 1 1 [.int .u8 (b.toNat : Int)] (by simp) hnews
    refine ⟨g, cap, w', ?_, ⟨new, fz, k2, by rw [k3]; exact hfree, by omega, by simp; omega, fun j hj => ?_⟩, .inl rfl, k5⟩
    · simp [Builtin.append_, run_underlying ht, sizeOf, typeInfo, hi, Builtin.lenOf, hroom, hf, hsize, Proofs.Ytfpdfhncifcghaa.add_lit, k1]
    · rw [k4 j]
      simp only [List.length_append, List.length_cons, List.length_nil] at hj
      by_cases e : j < L.length
      · rw [if_neg (by simp; omega), List.getElem_append_left e]
        exact hc j e
      · obtain rfl : j = L.length := by omega
        rw [if_pos (by simp)]
        simp
  · have hL : ∀ j v, (L.map fun b => Value.int .u8 (b.toNat : Int))[j]? = some v → w.cell? ((⟨g, 0, none⟩ : Addr).add j) = some v := fun j v hv => by
      rw [List.getElem?_map] at hv
      obtain ⟨x, hx, rfl⟩ := Option.map_eq_some_iff.1 hv
      obtain ⟨hj, rfl⟩ := List.getElem?_eq_some_iff.1 hx
      rw [Proofs.Ytfpdfhncifcghaa.add_lit, Nat.zero_add, cell_of_row w g j _ 5 fz h0]
      exact hc j hj
    have hgc := grownCap_ge w (L.length + 1) cap 5
    have hrun := run_append_grow (P := P) w t ty 5 i z ht hi hz ⟨g, 0, none⟩ L.length cap _ (by simp [hsize]) hL a 1 1 [.int .u8 (b.toNat : Int)] (by simp [hsize]) hnews (by omega) (by omega) (growslice_fits (by omega) (by rw [hby]; omega))
    refine ⟨_, _, _, hrun, ⟨_, _, heap_alloc_new w.drew _, fun j _ h => absurd h.2 (Nat.not_lt_zero _), ?_, ?_, fun j hj => ?_⟩, .inr (Nat.le_refl _), ⟨rfl, rfl, rfl, Nat.le_trans (Nat.le_succ w.heap.size) (Nat.le_of_eq (World.size_alloc w.drew _).symm), fun k hk _ => heap_alloc_old w.drew _ hk⟩⟩
    · simp only [Array.size_append, List.size_toArray, List.length_map, List.length_cons, List.length_nil, size_zeroCells, hzs]
      omega
    · simp only [List.length_append, List.length_cons, List.length_nil]
      omega
    · rw [Array.getElem?_append_left (by simpa using hj)]
      have e : (L.map fun b => Value.int .u8 (b.toNat : Int)).toArray ++ #[Value.int .u8 (b.toNat : Int)] = ((L ++ [b]).map fun b => Value.int .u8 (b.toNat : Int)).toArray := by simp
      rw [e, List.getElem?_toArray, List.getElem?_map, List.getElem?_eq_getElem hj]
      rfl
theorem run_copy_into {P : Program} (w : World) (dT sT ty : TypeId) (g cap off : Nat) (s : ByteArray) (L : List UInt8) (hu : P.underlying dT = some (.slice 5)) (hs : (P.info? 5).map (·.size) = some 1) (hr : RowB w g cap L) (hfit : off + s.size ≤ L.length) (dCap : Nat) :
    ∃ w', (Builtin.copy_ #[dT, sT] ty #[.slice (some ⟨g, off, none⟩) (L.length - off) dCap, .string s]).run P w = .ok (goInt s.size) w' ∧ RowB w' g cap (spliceB L off s) ∧ w.grownBy w' (some g) := by
  obtain ⟨cur, fz, h0, hfree, hcs, hLc, hc⟩ := hr
  have hlen : s.data.toList.length = s.size := Proofs.Ytfpdfhncifcghaa.len_eq s
  obtain ⟨w', new, k1, k2, k3, k4, k5⟩ := stored_free P g off 5 fz (byteCells s) 0 cur w h0 hfree (by rw [byteCells_length]; omega) (by
    intro u hu
    obtain ⟨_, _, rfl⟩ := List.mem_map.1 hu
    rfl)
  rw [byteCells_length] at k4
  have hm : Nat.min s.size (L.length - off) = s.size := Nat.min_eq_left (by omega)
  have hll : (spliceB L off s).length = L.length := by unfold spliceB; exact length_splice _ _ _ (by rw [hlen]; exact hfit)
  refine ⟨w', ?_, ⟨new, fz, k2, by rw [k3]; exact hfree, by omega, by omega, fun j hj => ?_⟩, k5⟩
  · cases hq : P.info? 5 with
    | none => simp [hq] at hs
    | some i =>
      have hi : i.size = 1 := by simpa [hq] using hs
      have hf := firstCells_string (P := P) s w
      simp [Builtin.copy_, run_underlying hu, Builtin.lenOf, sizeOf, typeInfo, hq, hi, hm, hf, k1]
  · suffices h : new[j]? = ((spliceB L off s)[j]?).map (fun b => Value.int .u8 (b.toNat : Int)) by
      rw [h, List.getElem?_eq_getElem hj]; rfl
    have hcj : ∀ d, cur[d]? = (L[d]?).map (fun b => Value.int .u8 (b.toNat : Int)) ∨ L.length ≤ d := fun d => by
      by_cases e : d < L.length
      · exact .inl (by rw [hc d e, List.getElem?_eq_getElem e]; rfl)
      · exact .inr (by omega)
    rw [hll] at hj
    rw [k4 j]
    unfold spliceB splice
    by_cases e : off ≤ j
    · rw [List.getElem?_append_right (by simp; omega)]
      have ht : (L.take off).length = off := by simp; omega
      rw [ht]
      by_cases e2 : j < off + s.size
      · rw [if_pos (by omega), List.getElem?_append_left (by omega)]
        simp [byteCells]
      · rw [if_neg (by omega), List.getElem?_append_right (by omega), List.getElem?_drop]
        rw [show off + s.data.toList.length + (j - off - s.data.toList.length) = j by omega]
        exact (hcj j).resolve_right (by omega)
    · rw [if_neg (by omega), List.getElem?_append_left (by simp; omega), List.getElem?_take_of_lt (by omega)]
      exact (hcj j).resolve_right (by omega)
theorem run_row_string {P : Program} (w : World) (src dst : TypeId) (g cap : Nat) (L : List UInt8) (hs : P.underlying src = some (.slice 5)) (he : P.underlying 5 = some (.int .u8)) (hd : P.underlying dst = some .string) (hr : RowB w g cap L) :
    (convert src dst (.slice (some ⟨g, 0, none⟩) L.length cap)).run P w = .ok (.string ⟨L.toArray⟩) w :=
  run_convert_bytes_back w src dst 5 ⟨g, 0, none⟩ cap L hs he hd fun j hj => by
    rw [Proofs.Ytfpdfhncifcghaa.add_lit, Nat.zero_add]
    exact hr.cell j hj
end Go
