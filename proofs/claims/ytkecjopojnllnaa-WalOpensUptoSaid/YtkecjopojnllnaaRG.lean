/- Where the log ends. -/
import Derived.Test.YtkecjopojnllnaaRE
namespace Go.Proofs.Ytkecjopojnllnaa
open Go.RowKit Go.Deep Go.Joins

theorem Reads.seg {w : World} {v : Value} {l : List Sg} (h : Reads w v 4 l.length (segCells l)) (k : Nat) (hk : k < l.length) :
    ∃ b off cap, v = .slice (some ⟨b, off, none⟩) l.length cap ∧ l.length ≤ cap ∧ cap ≤ maxLen ∧ b < w.heap.size ∧ w.cell? ⟨b, off + k * 4, none⟩ = some (.int .i64 l[k].num) ∧
      w.cell? ⟨b, off + k * 4 + 1, none⟩ = some (.string l[k].name) ∧ w.cell? ⟨b, off + k * 4 + 2, none⟩ = some (.string l[k].safe) ∧ w.cell? ⟨b, off + k * 4 + 3, none⟩ = some l[k].ov := by
  obtain ⟨b, off, cap, hv, h1, h2, hb, hc⟩ := h.at (by omega)
  obtain ⟨g0, g1, g2, g3⟩ := segCells_get l k hk
  exact ⟨b, off, cap, hv, h1, h2, hb, hc _ _ g0, hc _ _ g1, hc _ _ g2, hc _ _ g3⟩

set_option maxRecDepth 100000 in
set_option maxHeartbeats 1000000 in
theorem end_none (v : Value) (w : World) (hr : Reads w v 4 0 []) : Calls Try.prog 43 #[v] w fun e w' => e = .returned (.tuple #[.int .i64 0, .int .i64 0]) ∧ Below w.heap.size w w' := by
  obtain ⟨q, cap, rfl⟩ := hr.is
  go_enter Try.func43, Try.ntmps43
  go_wp2_with fail
  go_ret2
  exact ⟨rfl, Below.refl _ _⟩
set_option maxRecDepth 100000 in
set_option maxHeartbeats 1000000 in
theorem end_some (l : List Sg) (v : Value) (k : Nat) (hk : l.length = k + 1) (L : List Wr) (w : World) (hm : l.length ≤ 1099511627776) (hr : Reads w v 4 l.length (segCells l)) (ho : Reads w l[k].ov 2 L.length (wrCells L)) (hok : Okay [l[k].rw L]) :
    Calls Try.prog 43 #[v] w fun e w' => e = .returned (.tuple #[.int .i64 l[k].num, .int .i64 (layB l[k].safe L).size]) ∧ Below w.heap.size w w' := by
  obtain ⟨b, off, cap, rfl, _, _, hb, c0, c1, c2, c3⟩ := hr.seg k (by omega)
  obtain ⟨s, hs⟩ : ∃ s, l[k] = s := ⟨_, rfl⟩
  rw [hs] at c0 c1 c2 c3 ho hok
  rw [hs]
  generalize hw0 : w.alloc (.cells #[.int .i64 s.num, .string s.name, .string s.safe, .slice s.op s.ol s.oc] 84) = w0
  have hb0 : Below w.heap.size w w0 := hw0 ▸ below1 w _
  have k0 : w0.cell? ⟨w.heap.size, 0, none⟩ = some (.int .i64 s.num) := by rw [← hw0]; simp
  have k1 : w0.cell? ⟨w.heap.size, 1, none⟩ = some (.string s.name) := by rw [← hw0]; simp
  have k2 : w0.cell? ⟨w.heap.size, 2, none⟩ = some (.string s.safe) := by rw [← hw0]; simp
  have k3 : w0.cell? ⟨w.heap.size, 3, none⟩ = some (.slice s.op s.ol s.oc) := by rw [← hw0]; simp
  have hcel : ∀ W, Below w0.heap.size w0 W → W.cell? ⟨w.heap.size, 0, none⟩ = some (.int .i64 s.num) ∧ W.cell? ⟨w.heap.size, 1, none⟩ = some (.string s.name) ∧ W.cell? ⟨w.heap.size, 2, none⟩ = some (.string s.safe) ∧ W.cell? ⟨w.heap.size, 3, none⟩ = some (.slice s.op s.ol s.oc) :=
    fun W hW => ⟨below_cell hW k0, below_cell hW k1, below_cell hW k2, below_cell hW k3⟩
  have hbo := fun W (hW : Below w0.heap.size w0 W) => bytesOf_any s L W (ho.below (below_then hb0 hW)) hok
  have HB := Lib.hid hbo
  have HCEL := Lib.hid hcel
  have HW0 := Lib.hid hw0
  have HB0 := Lib.hid hb0
  have lg := lt_of_cell k0
  clear hbo ho hok hr hs hcel hw0 hb0
  have e1 : ((k + 1 : Nat) : Int) - 1 = (k : Int) := by omega
  rw [hk]
  unfold Sg.val at HB
  go_enter Try.func43, Try.ntmps43
  go_wp2_with fail
  rw [HW0.out]
  go_region_held3 (fun W => W.cell? ⟨w.heap.size, 0, none⟩ = some (.int .i64 s.num) ∧ W.cell? ⟨w.heap.size, 1, none⟩ = some (.string s.name) ∧ W.cell? ⟨w.heap.size, 2, none⟩ = some (.string s.safe) ∧ W.cell? ⟨w.heap.size, 3, none⟩ = some (.slice s.op s.ol s.oc))
    (first | exact HCEL.out _ (nb_refl _) | exact HCEL.out _ (nb_drew (nb_refl _)) | exact HCEL.out _ N2 | fail)
    (first | (go_at_call 56; with_reducible refine (HB.out _ (nb_drew (nb_refl _))).mono ?_; rintro e w2 ⟨rfl, hb2⟩; have N2 := below_then (nb_drew (nb_refl w0)) hb2) | fail)
  go_wp2_with fail
  go_ret2
  exact ⟨rfl, below_then HB0.out N2⟩
end Go.Proofs.Ytkecjopojnllnaa
