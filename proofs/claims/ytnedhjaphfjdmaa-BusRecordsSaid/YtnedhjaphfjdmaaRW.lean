/- Same. -/
import Derived.Test.YtnedhjaphfjdmaaRD
namespace Go.Proofs.Ytnedhjaphfjdmaa
open Go.RowKit Go.Deep Go.Joins
theorem string_of {w : World} {p : Option Addr} {n cap : Nat} {D : List UInt8} (h : DAt w (.slice p n cap) D) : (convert 36 9 (.slice p n cap)).run Try.prog w = .ok (.string ⟨D.toArray⟩) w := by
  rcases h.2 with ⟨e, h0⟩ | ⟨a, c, e, _, _, hc⟩
  · simp only [Value.slice.injEq] at e
    obtain ⟨rfl, rfl, rfl⟩ := e
    obtain rfl : D = [] := List.eq_nil_of_length_eq_zero h0
    rw [run_convert_bytes_string w 36 9 5 none 0 0 Try.underlying36 Try.underlying5 Try.underlying9]
    rfl
  · simp only [Value.slice.injEq] at e
    obtain ⟨rfl, rfl, rfl⟩ := e
    exact run_convert_bytes_back (P := Try.prog) w 36 9 5 a cap D Try.underlying36 Try.underlying5 Try.underlying9 (fun j hj => hc j _ (by simp [dC, hj]))
theorem MAt.cell {w : World} {v : Value} {M : List Int} (h : MAt w v M) (h0 : 0 < M.length) :
    ∃ b off cap, v = .slice (some ⟨b, off, none⟩) M.length cap ∧ M.length ≤ cap ∧ cap ≤ maxLen ∧ b < w.heap.size ∧ ∀ j (hj : j < M.length), w.cell? ⟨b, off + j, none⟩ = some (.int .u64 M[j]) := by
  obtain ⟨b, off, cap, h1, h2, h3, h4, h5⟩ := Reads.at h (by omega)
  exact ⟨b, off, cap, h1, h2, h3, h4, fun j hj => h5 j _ (by simp [mC, hj])⟩
def Boxes (w wr : World) (a b c d : Value) (E F : Int) : Prop := RamVar wr w.heap.size a b E ∧ RamVar wr (w.heap.size + 1) c d F ∧ Below w.heap.size w wr
theorem boxes_new (w : World) (a b c d : Value) (E F : Int) : Boxes w ((w.alloc (.cells #[a, b, .int .u64 E] 39)).alloc (.cells #[c, d, .int .u64 F] 39)) a b c d E F :=
  ⟨(heap_alloc_old _ (by simp)).trans (heap_alloc_new _ _), by have h := heap_alloc_new (w.alloc (.cells #[a, b, .int .u64 E] 39)) (.cells #[c, d, .int .u64 F] 39); rwa [World.size_alloc] at h, below2 w _ _⟩
theorem Boxes.drewN {w wr : World} {a b c d : Value} {E F : Int} (h : Boxes w wr a b c d E F) (n : Nat) : Boxes w (wr.drewN n) a b c d E F :=
  ⟨h.1, h.2.1, h.2.2.trans ⟨rfl, rfl, rfl, Nat.le_refl _, fun _ _ => rfl⟩⟩
set_option maxHeartbeats 2000000 in
theorem same_true (dv mv dv2 mv2 : Value) (E : Int) (D : List UInt8) (M : List Int) (w : World) (hd : DAt w dv D) (hm : MAt w mv M) (hd2 : DAt w dv2 D) (hm2 : MAt w mv2 M) :
    Calls Try.prog 25 #[.agg #[dv, mv, .int .u64 E], .agg #[dv2, mv2, .int .u64 E]] w fun e w' => e = .returned (.bool true) ∧ Below w.heap.size w w' := by
  obtain ⟨p, cap, rfl⟩ := hd.is
  obtain ⟨q, cap2, rfl⟩ := hm.is
  obtain ⟨p2, cap3, rfl⟩ := hd2.is
  obtain ⟨q2, cap4, rfl⟩ := hm2.is
  have hMle := hm.le
  obtain ⟨w0, hw0⟩ : ∃ w0, w0 = (w.alloc (.cells #[.slice p D.length cap, .slice q M.length cap2, .int .u64 E] 39)).alloc (.cells #[.slice p2 D.length cap3, .slice q2 M.length cap4, .int .u64 E] 39) := ⟨_, rfl⟩
  have hb0 : Below w.heap.size w w0 := by rw [hw0]; exact below2 w _ _
  have c1 := string_of (hd.below hb0)
  have c2 := string_of (hd2.below hb0)
  have HM := Lib.hid hm
  have HM2 := Lib.hid hm2
  have HBX := Lib.hid (boxes_new w (.slice p D.length cap) (.slice q M.length cap2) (.slice p2 D.length cap3) (.slice q2 M.length cap4) E E)
  clear hd hd2 hm hm2 hb0
  subst hw0
  go_enter Try.func25, Try.ntmps25
  go_wp2_with fail
  go_loopw [5] (fun i wr => ∃ j : Nat, j ≤ M.length ∧ i = .int .i64 j ∧ Hid (Boxes w wr (.slice p D.length cap) (.slice q M.length cap2) (.slice p2 D.length cap3) (.slice q2 M.length cap4) E E)) (fun i _ => M.length - (intOf i).toNat)
  case atStart => exact ⟨0, Nat.zero_le _, rfl, HBX⟩
  case round =>
    obtain ⟨j, hj, rfl, hbx⟩ := hrel
    clear c1 c2
    obtain ⟨x0, x1, x2⟩ := hbx.out.1.cells
    obtain ⟨y0, y1, y2⟩ := hbx.out.2.1.cells
    by_cases hlt : j < M.length
    · obtain ⟨b, off, _, e1, _, _, hb, hc⟩ := (HM.out.below hbx.out.2.2).cell (by omega)
      obtain ⟨b', off', _, e2, _, _, hb', hc'⟩ := (HM2.out.below hbx.out.2.2).cell (by omega)
      simp only [Value.slice.injEq, true_and] at e1 e2
      obtain ⟨rfl, rfl⟩ := e1
      obtain ⟨rfl, rfl⟩ := e2
      have d1 := hc j hlt
      have d2 := hc' j hlt
      clear hc hc'
      generalize M[j] = X at d1 d2
      go_wp2_with fail
      go_quiet (fail)
      go_wp2_with fail
      exact ⟨⟨j + 1, by omega, by go_num, Lib.hid (hbx.out.drewN _)⟩, by simp [intOf]; omega⟩
    · go_wp2_with fail
      go_ret
      exact ⟨rfl, hbx.out.2.2⟩
end Go.Proofs.Ytnedhjaphfjdmaa
