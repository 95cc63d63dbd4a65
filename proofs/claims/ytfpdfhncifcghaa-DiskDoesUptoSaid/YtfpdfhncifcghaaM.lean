/- DiskCalm: the walk. -/
import Derived.Test.YtfpdfhncifcghaaL
namespace Go.Proofs.Ytfpdfhncifcghaa
open Go.RowKit Go.Deep Go.Joins

theorem crash_mem {l : List Rw} {fs : List Ft} {r : Rw} (h : r ∈ crashRows l fs) : ∃ r0 ∈ l, ∃ f, r = crashRow r0 f := by
  obtain ⟨i, hi, rfl⟩ := List.getElem_of_mem h
  have hi' : i < l.length := by rw [crashRows_length] at hi; exact hi
  exact ⟨l[i], List.getElem_mem _, fs[i]?, crashRows_at l fs i hi hi'⟩
theorem survOf_bytes (r : Rw) (f : Option Ft) (N : Nat) (h : ∀ x ∈ r.opens, x.bytes.size ≤ N) : ∀ x ∈ survOf r f, x.bytes.size ≤ N := by
  cases f with
  | none => intro x hx; cases hx
  | some f => exact surv_bytes _ _ _ _ _ _ h
theorem crash_okay {l : List Rw} {fs : List Ft} (h : Okay l) : Okay (crashRows l fs) := fun r hr => by
  obtain ⟨r0, h0, f, rfl⟩ := crash_mem hr
  obtain ⟨k1, k2, k3⟩ := h r0 h0
  exact ⟨layB_size r0.safe (survOf r0 f) k1 (survOf_bytes r0 f _ k2), fun x hx => (List.not_mem_nil hx).elim, Nat.zero_le _⟩
theorem crash_opens (w : World) (l : List Rw) (fs : List Ft) : Opens w (crashRows l fs) := fun r hr => by
  obtain ⟨r0, h0, f, rfl⟩ := crash_mem hr
  exact reads_nil w 2
theorem crash_one (l : List Rw) (fs : List Ft) : ∀ r ∈ crashRows l fs, r.ov.oneCell' = true := fun r hr => by
  obtain ⟨r0, h0, f, rfl⟩ := crash_mem hr
  rfl
theorem crash_twice (r : Rw) (f g : Option Ft) : core (crashRow (crashRow r f) g) = core (crashRow r f) := by
  have e : survOf (crashRow r f) g = [] := by cases g <;> rfl
  unfold core
  show Fl.mk r.name (layB (crashRow r f).safe (survOf (crashRow r f) g)) [] = Fl.mk r.name (crashRow r f).safe []
  rw [e]
  rfl
theorem crashRows_twice (l : List Rw) (fs ms : List Ft) : (crashRows (crashRows l fs) ms).map core = (crashRows l fs).map core := by
  apply List.ext_getElem
  · simp only [List.length_map, crashRows_length]
  · intro i h1 h2
    simp only [List.length_map] at h1 h2
    rw [List.getElem_map, List.getElem_map, crashRows_at _ ms i h1 h2, crashRows_at l fs i h2 (by rwa [crashRows_length] at h2), crash_twice]

/-- The crashed disk in its variable, the first disk in its own. -/
structure CalmAt (w wr : World) (l : List Rw) (fs : List Ft) (v v' : Value) (B : Nat) : Prop where
  below : Below w.heap.size w wr
  lt : w.heap.size < wr.heap.size
  one : wr.cell? ⟨w.heap.size, 0, none⟩ = some v
  ltB : B < wr.heap.size
  two : wr.cell? ⟨B, 0, none⟩ = some v'
  rows : Reads wr v' 3 l.length (rowCells (crashRows l fs))

set_option maxRecDepth 100000 in
set_option maxHeartbeats 1000000 in
theorem calm_any (l : List Rw) (v : Value) (fs : List Ft) (fv : Value) (ms : List Ft) (mv : Value) (w : World) (hr : Reads w v 3 l.length (rowCells l)) (ho : Opens w l) (hf : Reads w fv 3 fs.length (ftCells fs)) (hwh : Wholes w fs)
    (hm : Reads w mv 3 ms.length (ftCells ms)) (hwm : Wholes w ms) (hok : Okay l) (hreach : l.length * 56 ≤ 140737488355328) (hone : ∀ r ∈ l, r.ov.oneCell' = true) (hmf : fs.length ≤ 9223372036854775807) (hmm : ms.length ≤ 9223372036854775807) :
    Calls Try.prog 5 #[.agg #[v], fv, mv] w fun e w' => e = .returned (.bool true) ∧ Below w.heap.size w w' := by
  obtain ⟨p, cap, rfl⟩ := hr.is
  obtain ⟨p2, cap2, rfl⟩ := hf.is
  obtain ⟨p5, cap5, rfl⟩ := hm.is
  go_enter Try.func5, Try.ntmps5
  go_wp2_with fail
  refine (awake_any _).mono ?_
  rintro e w1 ⟨rfl, hb1⟩
  have hbw1 := below_then (below1 w _) hb1
  have f0 := hb1.cell (p := ⟨w.heap.size, 0, none⟩) (by simp)
  rw [World.cell?_alloc_new] at f0
  have hs1 := hb1.size
  have HBW1 := Lib.hid hbw1
  clear hbw1 hb1
  go_wp2_with fail
  refine (crash_any l _ fs _ _ (hr.below HBW1.out) (ho.below HBW1.out) (hf.below HBW1.out) (fun r h => (hwh r h).below HBW1.out) hok hreach hone hmf).mono ?_
  rintro e w2 ⟨v', rfl, hown, hb2⟩
  obtain ⟨q, n, qc, rfl, hn⟩ : ∃ q n qc, v' = .slice q n qc ∧ n = l.length := by
    rcases hown.2 with ⟨h1, h2⟩ | ⟨g, c, cur, h1, _⟩
    · exact ⟨_, _, _, h1, h2.symm⟩
    · exact ⟨_, _, _, h1, rfl⟩
  subst hn
  have hrd := reads_of_owns hown
  have f1 := hb2.cell (p := ⟨w.heap.size, 0, none⟩) (by simp at hs1; simp; omega)
  rw [f0] at f1
  have HBW2 := Lib.hid (below_then HBW1.out hb2)
  have HRD := Lib.hid hrd
  clear hb2 hown hrd
  have hlt2 : w.heap.size < w2.heap.size := lt_of_cell f1
  have hS : CalmAt w (w2.alloc (.cells #[.slice q l.length qc] 24)) l fs (.slice p l.length cap) (.slice q l.length qc) w2.heap.size := by
    exact ⟨HBW2.out.alloc (by omega) _, by simp; omega, (World.cell?_alloc_old _ _ _ (by simp; omega)).trans f1, by simp, by simp, HRD.out.below (below1 w2 _)⟩
  have HS := Lib.hid hS
  clear hS
  clear hs1
  go_wp2_with fail
  go_loopw [8] (fun j wr => ∃ i : Nat, i ≤ l.length ∧ j = .int .i64 i ∧ Hid (CalmAt w wr l fs (.slice p l.length cap) (.slice q l.length qc) w2.heap.size)) (fun j _ => l.length - (intOf j).toNat)
  case atStart => exact ⟨0, Nat.zero_le _, rfl, HS⟩
  case round =>
    obtain ⟨i, hi, rfl, hat⟩ := hrel
    have g0 := hat.out.lt
    have g1 := hat.out.one
    have g2 := hat.out.ltB
    have g3 := hat.out.two
    by_cases hlt : i < l.length
    · have hrw := hat.out.rows
      rw [← crashRows_length l fs] at hrw
      obtain ⟨b2, off2, cap2, hv2, _, _, hb2, d0, d1, d2⟩ := hrw.file i (by rw [crashRows_length]; exact hlt)
      obtain ⟨rfl, rfl⟩ : q = some ⟨b2, off2, none⟩ ∧ qc = cap2 := by simpa using hv2
      rw [crashRows_at l fs i _ hlt] at d0 d1 d2
      have hov : (crashRow l[i] fs[i]?).ov = .slice none 0 0 := rfl
      rw [hov] at d2
      clear hv2 hrw hov d0 d1
      go_wp2_with fail
      go_round
      case rel => exact ⟨i + 1, by omega, by go_num, hat⟩
      case measure => simp [intOf]; omega
    · have hcalls : ∀ W, Below wr.heap.size wr W → Calls Try.prog 16 #[.agg #[.slice q l.length qc], .slice p5 ms.length cap5] W fun e w' => ∃ v'', e = .returned (.agg #[v'']) ∧ Hid (Reads w' v'' 3 l.length (rowCells (crashRows (crashRows l fs) ms))) ∧ Below W.heap.size W w' := fun W hW => by
        have hrd := hat.out.rows.below hW
        have hlen := crashRows_length l fs
        rw [← hlen] at hrd ⊢
        refine (crash_any (crashRows l fs) _ ms _ W hrd (crash_opens _ _ _) ((hm.below hat.out.below).below hW) (fun r h => ((hwm r h).below hat.out.below).below hW) (crash_okay hok) (by rw [hlen]; exact hreach) (crash_one _ _) hmm).mono ?_
        rintro e w' ⟨v'', rfl, h1, h2⟩
        exact ⟨v'', rfl, reads_of_owns h1, h2⟩
      have hsame : ∀ W v'', Below wr.heap.size wr W → Hid (Reads W v'' 3 l.length (rowCells (crashRows (crashRows l fs) ms))) → Calls Try.prog 15 #[.agg #[v''], .agg #[.slice q l.length qc]] W fun e w' => e = .returned (.bool true) ∧ Below W.heap.size W w' := fun W v'' hW hrd => by
        have hrd1 := hrd.out
        have hrd2 := hat.out.rows.below hW
        rw [← crashRows_length l fs, ← crashRows_length (crashRows l fs) ms] at hrd1
        rw [← crashRows_length l fs] at hrd2
        have h := same_true _ (crashRows l fs) v'' _ W hrd1 (crash_opens _ _ _) hrd2 (crash_opens _ _ _) (crashRows_twice l fs ms) (by rw [crashRows_length, crashRows_length]; omega) (fun r hr => by
          obtain ⟨r0, _, f, rfl⟩ := crash_mem hr
          exact Nat.zero_le _)
        rw [crashRows_length l fs] at h
        exact h
      have HCA := Lib.hid hcalls
      have HSA := Lib.hid hsame
      have HW := Lib.hid hat.out.below
      clear hcalls hsame
      have heq : (((l.length : Nat) : Int) == ((l.length : Nat) : Int)) = true := by simp
      go_wp2_with fail
      go_region_held3 (fun w' => w'.cell? ⟨w.heap.size, 0, none⟩ = some (.slice p l.length cap) ∧ w'.cell? ⟨w2.heap.size, 0, none⟩ = some (.slice q l.length qc)) (first | exact ⟨below_cell hb6 (below_cell hb5 (below_cell (Below.refl _ _).drew g1)), below_cell hb6 (below_cell hb5 (below_cell (Below.refl _ _).drew g3))⟩ | exact ⟨below_cell hb5 (below_cell (Below.refl _ _).drew g1), below_cell hb5 (below_cell (Below.refl _ _).drew g3)⟩ | go_keep)
        (first | (go_at_call 16; refine (HCA.out _ (Below.refl _ _).drew).mono ?_; rintro e w5 ⟨v5, rfl, hrd5, hb5⟩) | (go_at_call 15; refine (HSA.out _ _ (below_then (Below.refl _ _).drew hb5) hrd5).mono ?_; rintro e w6 ⟨rfl, hb6⟩))
      all_goals
        go_wp2_with fail
        go_ret
        exact ⟨rfl, below_then HW.out (below_then (Below.refl _ _).drew (below_then hb5 hb6))⟩
end Go.Proofs.Ytfpdfhncifcghaa
