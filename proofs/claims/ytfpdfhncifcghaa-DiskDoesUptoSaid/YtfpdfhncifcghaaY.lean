/- What a crash leaves where no open write lies, on the plain side; and 'covered'. -/
import Derived.Test.YtfpdfhncifcghaaX
namespace Go.Proofs.Ytfpdfhncifcghaa
open Go.RowKit Go.Deep Go.Joins

theorem splice_out (L : List UInt8) (off k : Nat) (cs : List UInt8) (h : off + cs.length ≤ L.length) (hk : k < off ∨ off + cs.length ≤ k) : (splice L off cs)[k]? = L[k]? := by
  unfold splice
  rcases hk with hk | hk
  · rw [List.getElem?_append_left (by rw [List.length_take]; omega), List.getElem?_take, if_pos hk]
  · rw [List.getElem?_append_right (by rw [List.length_take]; omega), List.length_take, Nat.min_eq_left (by omega), List.getElem?_append_right (by omega), List.getElem?_drop]
    congr 1
    omega
theorem splice_in (L : List UInt8) (k : Nat) (cs : List UInt8) (hk : k < cs.length) : (splice L 0 cs)[k]? = cs[k]? := by
  unfold splice
  rw [List.take_zero, List.nil_append, List.getElem?_append_left hk]

def cov (x : Wr) (k : Nat) : Bool := decide (0 ≤ x.pos) && decide (x.pos ≤ k) && decide ((k : Int) - x.pos < x.bytes.size)
def covs (l : List Wr) (k : Nat) : Bool := l.any fun x => cov x k

theorem overAll_out (k : Nat) (l : List Wr) : ∀ (L : List UInt8), (∀ x ∈ l, wk x = true → x.pos.toNat + x.bytes.size ≤ L.length) → (∀ x ∈ l, cov x k = false) →
    (overAll L l)[k]? = L[k]? ∧ (overAll L l).length = L.length := by
  induction l with
  | nil => intro L _ _; exact ⟨rfl, rfl⟩
  | cons x l ih =>
    intro L hf hc
    have hl := length_over L x (hf x (by simp))
    obtain ⟨h1, h2⟩ := ih (over L x) (fun y hy hw => by rw [hl]; exact hf y (List.mem_cons_of_mem _ hy) hw) (fun y hy => hc y (List.mem_cons_of_mem _ hy))
    refine ⟨h1.trans ?_, h2.trans hl⟩
    unfold over
    split
    · rename_i hw
      obtain ⟨p0, p1, p2⟩ := wk_pos hw
      have := hc x (by simp)
      unfold cov at this
      simp only [Bool.and_eq_false_iff, decide_eq_false_iff_not] at this
      have hfx := hf x (by simp) hw
      exact splice_out _ _ _ _ (by rw [len_eq]; exact hfx) (by rw [len_eq]; omega)
    · rfl

theorem layB_keep (s : ByteArray) (l : List Wr) : s.size ≤ (layB s l).size ∧ ∀ k (h : k < s.size), covs l k = false → ∃ h', (layB s l)[k]'h' = s[k] := by
  unfold layB
  split
  · exact ⟨Nat.le_refl _, fun k h _ => ⟨h, rfl⟩⟩
  · generalize hL : spliceB (List.replicate (sizeUp s.size l) 0) 0 s = L
    have hs := sizeUp_ge s.size l
    have hLl : L.length = sizeUp s.size l := by
      rw [← hL]; unfold spliceB
      rw [length_splice _ _ _ (by rw [len_eq, List.length_replicate]; omega), List.length_replicate]
    have hf : ∀ x ∈ l, wk x = true → x.pos.toNat + x.bytes.size ≤ L.length := fun x hx hw => by rw [hLl]; exact sizeUp_has _ _ _ hx hw
    have hlen : ∀ (m : List Wr) (M : List UInt8), (∀ x ∈ m, wk x = true → x.pos.toNat + x.bytes.size ≤ M.length) → (overAll M m).length = M.length := by
      intro m
      induction m with
      | nil => intro M _; rfl
      | cons x m ih =>
        intro M hM
        have hl := length_over M x (hM x (by simp))
        exact (ih (over M x) fun y hy hw => by rw [hl]; exact hM y (List.mem_cons_of_mem _ hy) hw).trans hl
    have hsz : (⟨(overAll L l).toArray⟩ : ByteArray).size = L.length := by
      show (overAll L l).toArray.size = L.length
      rw [List.size_toArray]
      exact hlen l L hf
    refine ⟨by rw [hsz, hLl]; exact hs, fun k h hc => ?_⟩
    have h' : k < (⟨(overAll L l).toArray⟩ : ByteArray).size := by rw [hsz, hLl]; omega
    refine ⟨h', ?_⟩
    have hk := (overAll_out k l L hf (by simpa [covs] using hc)).1
    have e1 : L[k]? = s.data.toList[k]? := by rw [← hL]; exact splice_in _ _ _ (by rw [len_eq]; exact h)
    rw [e1] at hk
    have g1 : (overAll L l)[k]? = some ((⟨(overAll L l).toArray⟩ : ByteArray)[k]'h') := by
      rw [List.getElem?_eq_getElem (by rw [hlen l L hf, hLl]; omega)]; rfl
    have g2 : s.data.toList[k]? = some s[k] := by
      rw [List.getElem?_eq_getElem (by rw [len_eq]; exact h)]; rfl
    rw [g1, g2] at hk
    exact Option.some.inj hk

theorem cut_size (nb : Int) (s : ByteArray) : (cutTo nb s).size ≤ s.size := by
  obtain ⟨x, m, hm, e, _⟩ := cut_ops nb s
  rw [e, ByteArray.size_extract]
  omega
theorem surv_cov (whole : List Bool) (torn nb : Int) (k : Nat) (l : List Wr) : ∀ i, covs l k = false → covs (surv whole torn nb i l) k = false := by
  induction l with
  | nil => intro i h; exact h
  | cons x l ih =>
    intro i h
    unfold covs at h
    rw [List.any_cons, Bool.or_eq_false_iff] at h
    rw [surv_cons]
    split
    · unfold covs
      rw [List.any_cons, List.any_nil, Bool.or_false]
      have hx := h.1
      have hz := cut_size nb x.bytes
      unfold cov at hx ⊢
      simp only [Bool.and_eq_false_iff, decide_eq_false_iff_not] at hx ⊢
      omega
    · split
      · unfold covs
        rw [List.any_cons, Bool.or_eq_false_iff]
        exact ⟨h.1, ih (i + 1) h.2⟩
      · exact ih (i + 1) h.2
theorem survOf_cov (r : Rw) (f : Option Ft) (k : Nat) (h : covs r.opens k = false) : covs (survOf r f) k = false := by
  cases f with
  | none => rfl
  | some f => exact surv_cov _ _ _ _ _ _ h

/-- A safe byte that no open write covers outlives the crash. -/
theorem crash_keep (r : Rw) (f : Option Ft) : r.safe.size ≤ (crashRow r f).safe.size ∧ ∀ k (h : k < r.safe.size), covs r.opens k = false → ∃ h', (crashRow r f).safe[k]'h' = r.safe[k] := by
  obtain ⟨h1, h2⟩ := layB_keep r.safe (survOf r f)
  exact ⟨h1, fun k h hc => h2 k h (survOf_cov r f k hc)⟩

theorem covs_snoc (l : List Wr) (k i : Nat) (h : i < l.length) (h0 : covs (l.take i) k = false) : covs (l.take (i + 1)) k = cov l[i] k := by
  unfold covs at *
  rw [List.take_succ_eq_append_getElem h, List.any_append, h0, Bool.false_or, List.any_cons, List.any_nil, Bool.or_false]
theorem covs_true (l : List Wr) (k i : Nat) (h : i < l.length) (h0 : cov l[i] k = true) : covs l k = true := List.any_eq_true.2 ⟨l[i], List.getElem_mem _, h0⟩

theorem covered_any (nm sf : ByteArray) (l : List Wr) (v : Value) (k : Nat) (w : World) (hr : Reads w v 2 l.length (wrCells l)) (hm : l.length ≤ 9223372036854775807) (hk : k ≤ 9223372036854775807) :
    Calls Try.prog 21 #[.agg #[.string nm, .string sf, v], .int .i64 k] w fun e w' => e = .returned (.bool (covs l k)) ∧ Below w.heap.size w w' := by
  obtain ⟨p, cap, rfl⟩ := hr.is
  go_enter Try.func21, Try.ntmps21
  go_wp2
  go_loopw [5] (fun j wr => ∃ i : Nat, i ≤ l.length ∧ j = .int .i64 i ∧ covs (l.take i) k = false ∧ Below (w.heap.size + 1) (w.alloc (.cells #[.string nm, .string sf, .slice p l.length cap] 35)) wr) (fun j _ => l.length - (intOf j).toNat)
  case atStart => exact ⟨0, Nat.zero_le _, rfl, rfl, Below.refl _ _⟩
  case round =>
    obtain ⟨i, hi, rfl, hcv, hbl⟩ := hrel
    have hbw : Below w.heap.size w wr := (below1 w _).trans (hbl.mono (by omega))
    have hlb := hbl.size
    rw [World.size_alloc] at hlb
    have hlt2 : w.heap.size < wr.heap.size := by omega
    have f2 := hbl.cell (p := ⟨w.heap.size, 2, none⟩) (by simp)
    rw [World.cell?_alloc_new] at f2
    simp only [List.getElem?_toArray, List.getElem?_cons_zero, List.getElem?_cons_succ] at f2
    have HCV := Lib.hid hcv
    clear hcv
    by_cases hlt : i < l.length
    · obtain ⟨b1, off1, cap1, hv, _, _, hb1, c0, c1⟩ := (hr.below hbw).write i hlt
      obtain ⟨rfl, rfl⟩ : p = some ⟨b1, off1, none⟩ ∧ cap = cap1 := by simpa using hv
      have HB := Lib.hid hbl
      have HBW := Lib.hid hbw
      clear hbl hbw hr hv
      rcases Bool.eq_false_or_eq_true (cov l[i] k) with hc | hc
      · have hc' := hc
        unfold cov at hc'
        simp only [Bool.and_eq_true, decide_eq_true_eq] at hc'
        obtain ⟨⟨q0, q1⟩, q2⟩ := hc'
        have HC := Lib.hid hc
        clear hc
        have hwr := IntWalk.i64_in ((k : Int) - l[i].pos) (by omega)
        go_wp2
        go_ret
        exact ⟨ret_bool (covs_true l k i hlt HC.out).symm, HBW.out.alloc (Nat.le_of_lt hlt2) _⟩
      · by_cases q0 : 0 ≤ l[i].pos
        · by_cases q1 : l[i].pos ≤ (k : Int)
          · have hc' := hc
            unfold cov at hc'
            rw [decide_eq_true q0, decide_eq_true q1, Bool.true_and, Bool.true_and, decide_eq_false_iff_not] at hc'
            have HC := Lib.hid hc
            clear hc
            have hwr := IntWalk.i64_in ((k : Int) - l[i].pos) (by omega)
            go_wp2
            go_round
            case rel => exact ⟨i + 1, by omega, by go_num, by rw [covs_snoc l k i hlt HCV.out, HC.out], HB.out.alloc (by omega) _⟩
            case measure => simp [intOf]; omega
          · have HC := Lib.hid hc
            clear hc
            go_wp2
            go_round
            case rel => exact ⟨i + 1, by omega, by go_num, by rw [covs_snoc l k i hlt HCV.out, HC.out], HB.out.alloc (by omega) _⟩
            case measure => simp [intOf]; omega
        · have HC := Lib.hid hc
          clear hc
          go_wp2
          go_round
          case rel => exact ⟨i + 1, by omega, by go_num, by rw [covs_snoc l k i hlt HCV.out, HC.out], HB.out.alloc (by omega) _⟩
          case measure => simp [intOf]; omega
    · have hc : covs l k = false := by
        have := HCV.out
        rwa [List.take_of_length_le (by omega)] at this
      have HC := Lib.hid hc
      have HBW := Lib.hid hbw
      clear hbl hbw hr hc
      go_wp2
      go_ret
      exact ⟨ret_bool HC.out.symm, HBW.out⟩
end Go.Proofs.Ytfpdfhncifcghaa
