/- A copy of a disk. -/
import Derived.Test.YtfpdfhncifcghaaF
namespace Go.Proofs.Ytfpdfhncifcghaa
open Go.RowKit

def core (r : Rw) : Fl := ⟨r.name, r.safe, r.opens⟩
/-- A disk that is the call's own: its row of files, each file's row of open writes, and no two of them one. -/
def OwnD (w : World) (B : Nat) (v : Value) (l : List Rw) : Prop :=
  w.ownsRow B 35 3 v l.length (rowCells l) ∧ (∀ r ∈ l, w.ownsRow B 37 2 r.ov r.opens.length (wrCells r.opens)) ∧ ((v :: l.map (·.ov)).filterMap Value.ownBlock).Nodup

theorem owns_shape {w : World} {B n size : Nat} {e : TypeId} {v : Value} {xs : List Value} (h : w.ownsRow B e size v n xs) : ∃ p cap, v = .slice p n cap := by
  rcases h.2 with ⟨h1, h2⟩ | ⟨g, cap, _, h1, _⟩
  · exact ⟨_, _, h2 ▸ h1⟩
  · exact ⟨_, _, h1⟩

theorem nodup_one (v : Value) : (([v] : List Value).filterMap Value.ownBlock).Nodup := by cases h : v.ownBlock <;> simp [h]
theorem wr_one (l : List Wr) : ∀ u ∈ wrCells l, u.oneCell' = true := by
  intro u hu
  obtain ⟨r, _, hu⟩ := List.mem_flatMap.1 hu
  simp only [List.mem_cons, List.not_mem_nil, or_false] at hu
  rcases hu with rfl | rfl <;> rfl
theorem grown_below {w w' : World} (h : w.grownBy w' none) : Below w.heap.size w w' := (Below.refl _ _).grown h (Nat.le_refl _) (fun k hk => by cases hk)
theorem rowCells_set2 (l : List Rw) (k : Nat) (r : Rw) (h : k < l.length) (hn : l[k].name = r.name) (hs : l[k].safe = r.safe) : (rowCells l).set (k * 3 + 2) r.ov = rowCells (l.set k r) := by
  rw [← rowCells_set l k r h]
  obtain ⟨g0, g1, _⟩ := rowCells_get l k h
  have e0 : (rowCells l).set (k * 3) (.string r.name) = rowCells l := by
    apply List.ext_getElem?
    intro j
    rw [List.getElem?_set]
    split
    · rename_i e; subst e; rw [g0, hn]; split
      · rfl
      · rename_i hl; rw [List.getElem?_eq_none (by omega)] at g0; cases g0
    · rfl
  have e1 : (rowCells l).set (k * 3 + 1) (.string r.safe) = rowCells l := by
    apply List.ext_getElem?
    intro j
    rw [List.getElem?_set]
    split
    · rename_i e; subst e; rw [g1, hs]; split
      · rfl
      · rename_i hl; rw [List.getElem?_eq_none (by omega)] at g1; cases g1
    · rfl
  rw [e0, e1]
theorem owns_other {w : World} {B n size g : Nat} {e : TypeId} {v : Value} {xs : List Value} (h : w.ownsRow B e size v n xs) (hne : v.ownBlock ≠ some g) (j : Nat) (u : Value) : (w.setCell ⟨g, j, none⟩ u).ownsRow B e size v n xs :=
  h.kept (row := some g) ⟨rfl, rfl, rfl, by simp, fun k _ hk => heap_setCell_other w ⟨g, j, none⟩ k u (fun e => hk (by simp [e]))⟩ (.inr hne)
theorem nodup_head {g n cap : Nat} {d : List Rw} (h : ((Value.slice (some ⟨g, 0, none⟩) n cap :: d.map (·.ov)).filterMap Value.ownBlock).Nodup) : ∀ r ∈ d, r.ov.ownBlock ≠ some g := by
  intro r hr e
  simp only [Value.ownBlock, List.filterMap_cons, List.nodup_cons, List.mem_filterMap, List.mem_map] at h
  exact h.1 ⟨r.ov, ⟨r, hr, rfl⟩, e⟩
theorem nodup_snoc {v : Value} {d : List Rw} {r : Rw} {N : Nat} (h : ((v :: d.map (·.ov)).filterMap Value.ownBlock).Nodup) (hv : ∀ b, v.ownBlock = some b → b < N) (hd : ∀ r ∈ d, ∀ b, r.ov.ownBlock = some b → b < N)
    (hr : ∀ b, r.ov.ownBlock = some b → N ≤ b) : ((v :: (d ++ [r]).map (·.ov)).filterMap Value.ownBlock).Nodup := by
  rw [List.map_append, ← List.cons_append, List.filterMap_append, List.nodup_append]
  refine ⟨h, ?_, ?_⟩
  · cases e : r.ov.ownBlock <;> simp [e]
  · intro a ha b hb e
    subst e
    rw [List.mem_filterMap] at ha hb
    obtain ⟨x, hx, hxa⟩ := ha
    obtain ⟨y, hy, hya⟩ := hb
    simp only [List.map_cons, List.map_nil, List.mem_singleton] at hy
    subst hy
    have h1 := hr a hya
    rcases List.mem_cons.1 hx with rfl | hx
    · have := hv a hxa; omega
    · obtain ⟨r', hr', rfl⟩ := List.mem_map.1 hx
      have := hd r' hr' a hxa; omega
theorem later_at (d l : List Rw) (k : Nat) (hd : d.length = k) (hk : k < l.length) {h : k < (d ++ l.drop k).length} : (d ++ l.drop k)[k] = l[k] := by
  subst hd
  rw [List.getElem_append_right (Nat.le_refl _)]
  simp
theorem later_set (d l : List Rw) (k : Nat) (hd : d.length = k) (hk : k < l.length) (r : Rw) : (d ++ l.drop k).set k r = (d ++ [r]) ++ l.drop (k + 1) := by
  subst hd
  rw [List.set_append_right _ _ (Nat.le_refl _), List.append_assoc, Nat.sub_self, List.drop_eq_getElem_cons hk]
  rfl

set_option maxHeartbeats 1000000 in
theorem copy_any (l : List Rw) (v : Value) (w : World) (hr : Reads w v 3 l.length (rowCells l)) (ho : Opens w l) (hok : Okay l) (hreach : l.length * 56 ≤ 140737488355328) :
    Calls Try.prog 18 #[.agg #[v]] w fun e w' => ∃ v' l', e = .returned (.agg #[v']) ∧ l'.map core = l.map core ∧ OwnD w' w.heap.size v' l' ∧ Below w.heap.size w w' := by
  obtain ⟨i0, hi, hz0, hz1, hz2⟩ := info_parts (show (Try.prog.info? 35).map (fun i => (i.zero, i.size, i.bytes)) = some (some (.agg #[.string .empty, .string .empty, .slice none 0 0]), 3, 56) by kernel_rfl)
  obtain ⟨i1, hj, hy0, hy1, hy2⟩ := info_parts (show (Try.prog.info? 37).map (fun i => (i.zero, i.size, i.bytes)) = some (some (.agg #[.int .i64 0, .string .empty]), 2, 24) by kernel_rfl)
  have hone' : ∀ u ∈ rowCells l, u.oneCell' = true := by
    intro u hu
    obtain ⟨r, hr, hu⟩ := List.mem_flatMap.1 hu
    simp only [List.mem_cons, List.not_mem_nil, or_false] at hu
    rcases hu with rfl | rfl | rfl
    · rfl
    · rfl
    · obtain ⟨p, cap, h⟩ := (ho r hr).is
      rw [h]; rfl
  have HONE := Lib.hid hone'
  clear hone'
  go_enter Try.func18, Try.ntmps18
  go_wp2_with (at_builtin; refine wpList_append_copy rfl _ _ 22 rfl (w.heap.size + 2) 35 i0 (.agg #[.string .empty, .string .empty, .slice none 0 0]) 3 56 Try.underlying22 hi hz0 hz1 hz2 rfl (by decide) rfl _ rfl l.length (rowCells l) ?c1 HONE.out ?c2 ?c3 ?c4 ?_; rotate_right 1; intro q qc w5 hown5 hg5; have HO5 := Lib.hid hown5; clear hown5)
  case c1 => exact hr.below (below2 w _ _)
  case c2 => unfold maxLen; omega
  case c3 => exact hreach
  case c4 => simp
  have hb5 : Below w.heap.size w w5 := (below2 w _ _).grown hg5 (by simp; omega) (fun k hk => by cases hk)
  have HB5 := Lib.hid hb5
  have hs5 : w.heap.size + 2 ≤ w5.heap.size := by have := hg5.size; simp at this; omega
  have r5 : w5.cell? ⟨w.heap.size + 1, 0, none⟩ = some (.slice none 0 0) := hg5.cell (a := ⟨w.heap.size + 1, 0, none⟩) (by simp) (by simp)
  have f5 : w5.frozen? ⟨w.heap.size + 1, 0, none⟩ = false := by
    rw [World.frozen?_of_block (w := (w.alloc (Obj.cells #[v] 24)).alloc (Obj.cells #[Value.slice none 0 0] 24)) (hg5.block _ (by simp) (by simp))]
    simp
  go_wp2_with fail
  go_loopw [10] (fun i wr => ∃ (k : Nat) (d : List Rw), k ≤ l.length ∧ i = .int .i64 k ∧ Hid (d.length = k) ∧ Hid (d.map core = (l.take k).map core) ∧
    Hid (wr.ownsRow (w.heap.size + 2) 35 3 (.slice q l.length qc) l.length (rowCells (d ++ l.drop k))) ∧ Hid (∀ r ∈ d, wr.ownsRow (w.heap.size + 2) 37 2 r.ov r.opens.length (wrCells r.opens)) ∧
    Hid (((Value.slice q l.length qc :: d.map (·.ov)).filterMap Value.ownBlock).Nodup) ∧ Below (w.heap.size + 2) w5 wr) (fun i _ => l.length - (intOf i).toNat)
  case atStart => exact ⟨0, [], Nat.zero_le _, rfl, rfl, rfl, HO5.out, fun r hr => (by cases hr), nodup_one _, Below.refl _ _⟩
  case round =>
    obtain ⟨k, d, hk, rfl, hdl, hdc, hown, hopn, hnd, hbl⟩ := hrel
    have hbw : Below w.heap.size w wr := HB5.out.trans (hbl.mono (by omega))
    have hlb := hbl.size
    have hlt2 : w.heap.size + 1 < wr.heap.size := by omega
    by_cases hlt : k < l.length
    · obtain ⟨g, hq, hg1, hg2, c0, c1, c2, fz⟩ := owns_file hown.out k (by simp [hdl.out]; omega) (by omega)
      subst hq
      rw [later_at _ _ _ hdl.out hlt] at c0 c1 c2
      have hmem : l[k] ∈ l := List.getElem_mem _
      have hop := ho l[k] hmem
      obtain ⟨hk1, hk2, hk3⟩ := hok l[k] hmem
      have HOP := Lib.hid (hop.below hbw)
      have HBL := Lib.hid hbl
      have HBW := Lib.hid hbw
      have HHO := Lib.hid ho
      have HOK := Lib.hid hok
      have f2 := fz (k * 3 + 2)
      clear hop hk2 hbl hbw ho hok fz
      go_wp2_with (at_builtin; refine wpList_append_copy rfl _ _ 33 rfl wr.heap.size 37 i1 (.agg #[.int .i64 0, .string .empty]) 2 24 Try.underlying33 hj hy0 hy1 hy2 rfl (by decide) rfl _ rfl l[k].opens.length (wrCells l[k].opens) ?d1 ?d2 ?d3 ?d4 ?d5 ?_; rotate_right 1; intro q2 qc2 w6 hown6 hg6; have HO6 := Lib.hid hown6; clear hown6; have e2 := hg6.cell (a := ⟨g, k * 3 + 2, none⟩) c2 (by simp); have z2 := (World.frozen?_of_block (a := ⟨g, k * 3 + 2, none⟩) (hg6.block g hg2 (by simp))).trans f2)
      case d1 => exact HOP.out
      case d2 => exact wr_one _
      case d3 => unfold maxLen; omega
      case d4 => exact hk3
      case d5 => exact Nat.le_refl _
      go_roundw
      case rel =>
        have hb6 := grown_below hg6
        have hrow := owns_below hown.out hb6
        refine ⟨k + 1, d ++ [⟨l[k].name, l[k].safe, .slice q2 l[k].opens.length qc2, l[k].opens⟩], by omega, by go_num, ?_, ?_, ?_, ?_, ?_, ?_⟩
        · show _ = _; simp [hdl.out]
        · show _ = _
          rw [List.map_append, hdc.out, List.take_succ_eq_append_getElem hlt, List.map_append]; rfl
        · show World.ownsRow _ _ _ _ _ _ _
          have hst := (hrow.stored (k * 3 + 2) (.slice q2 l[k].opens.length qc2)).1
          rw [rowCells_set2 _ k ⟨l[k].name, l[k].safe, .slice q2 l[k].opens.length qc2, l[k].opens⟩ (by simp [hdl.out]; omega) (by rw [later_at _ _ _ hdl.out hlt]) (by rw [later_at _ _ _ hdl.out hlt]), later_set d l k hdl.out hlt] at hst
          exact hst
        · show ∀ r ∈ _, _
          have hne := nodup_head hnd.out
          intro r hr
          rcases List.mem_append.1 hr with hr | hr
          · exact owns_other (owns_below (hopn.out r hr) hb6) (hne r hr) _ _
          · rw [List.mem_singleton] at hr
            subst hr
            exact owns_other (owns_mono HO6.out (by omega)) (fun h => by have := (HO6.out.lt g h).1; omega) _ _
        · show List.Nodup _
          refine nodup_snoc hnd.out (N := wr.heap.size) (fun b hb => (hown.out.lt b hb).2) (fun r hr b hb => ((hopn.out r hr).lt b hb).2) fun b hb => (HO6.out.lt b hb).1
        · exact (HBL.out.trans (hb6.mono (by omega))).setCell hg1 _
      case measure => simp [intOf]; omega
    · have r6 := hbl.cell (p := ⟨w.heap.size + 1, 0, none⟩) (by simp)
      have f6 := hbl.frozen (p := ⟨w.heap.size + 1, 0, none⟩) (by simp)
      rw [r5] at r6
      rw [f5] at f6
      obtain rfl : k = l.length := by omega
      go_wp2_with fail
      refine bodyPost_ret (v := .agg #[.slice q l.length qc]) (by simp [results, Try.results18, go_sem, r6]) rfl
        ⟨_, d, rfl, by rw [hdc.out, List.take_length], ?_, hbw.setCell (by simp) _⟩
      have hrow := hown.out
      rw [List.drop_length, List.append_nil] at hrow
      refine ⟨?_, fun r hr => ?_, hnd.out⟩
      · rw [hdl.out]; exact owns_mono (ownsRow_setCell_below hrow (by simp) _) (by omega)
      · exact owns_mono (ownsRow_setCell_below (hopn.out r hr) (by simp) _) (by omega)
end Go.Proofs.Ytfpdfhncifcghaa
