/- Sync of both sides. -/
import Derived.Test.YtkecjopojnllnaaM12
import Derived.Test.YtkecjopojnllnaaM07
import Derived.Handy
import Derived.Test.YtkecjopojnllnaaM08
import Derived.Test.YtkecjopojnllnaaM06
import Derived.OwnWalk
import Derived.Test.YtkecjopojnllnaaM05
namespace Go.Proofs.Ytkecjopojnllnaa
open Go.RowKit Go.Deep Go.Joins

def syncV (x : ByteArray) : Value := .agg #[.int .i64 2, .string x, .int .i64 0, .string ⟨#[]⟩]
set_option maxRecDepth 100000 in
set_option maxHeartbeats 1000000 in
theorem syncOf_any (x : ByteArray) (w : World) : Calls Try.prog 44 #[.string x] w fun e w' => e = .returned (syncV x) ∧ Below w.heap.size w w' := by
  go_enter Try.func44, Try.ntmps44
  go_wp2_with fail
  go_returns
  exact ⟨rfl, below1 w _⟩
theorem reads_last {W : World} (r : Rw) : Reads (W.alloc (.cells #[.string r.name, .string r.safe, r.ov] 58)) (.slice (some ⟨W.heap.size, 0, none⟩) 1 1) 3 1 (rowCells [r]) := by
  refine ⟨rfl, .inr ⟨_, 1, rfl, Nat.le_refl _, by unfold maxLen; omega, fun j u hu => ?_⟩⟩
  rw [add_lit]
  rcases j with _ | _ | _ | j
  · simpa [rowCells] using hu
  · simpa [rowCells] using hu
  · simpa [rowCells] using hu
  · simp [rowCells] at hu
/-- The file of a segment whose open writes are these. -/
def Sg.rw (s : Sg) (L : List Wr) : Rw := ⟨s.name, s.safe, s.ov, L⟩
theorem idx_own (r : Rw) : idx (sameName r.name) [r] = (0 : Nat) := idx_some (l := [r]) (k := 0) (by simp) (fun j _ h => absurd h (Nat.not_lt_zero _)) (sameName_self r)
set_option maxRecDepth 100000 in
set_option maxHeartbeats 1000000 in
theorem bytesOf_any (s : Sg) (L : List Wr) (w : World) (ho : Reads w s.ov 2 L.length (wrCells L)) (hok : Okay [s.rw L]) : Calls Try.prog 56 #[s.val] w fun e w' => e = .returned (.string (layB s.safe L)) ∧ Below w.heap.size w w' := by
  have hb : ∀ o, Calls Try.prog 73 #[.agg #[.slice (some ⟨w.heap.size + 1, 0, none⟩) 1 1], .string s.name] ((w.alloc o).alloc (.cells #[.string s.name, .string s.safe, s.ov] 58)) fun e w' => e = .returned (.tuple #[.string (layB s.safe L), .int .i64 0]) ∧ Below w.heap.size w w' := by
    intro o
    have hr := reads_last (W := w.alloc o) (s.rw L)
    rw [show (w.alloc o).heap.size = w.heap.size + 1 by simp] at hr
    refine (bytes_some [s.rw L] _ s.name _ 0 (by simp) hr ?_ hok (by simp) (idx_own (s.rw L))).mono fun e w' h => ⟨h.1, below_then (below2 w _ _) h.2⟩
    intro r hr
    rw [List.mem_singleton] at hr
    subst hr
    exact ho.below (below2 w _ _)
  have HB := Lib.hid hb
  clear hb ho hok
  unfold Sg.val
  go_enter Try.func56, Try.ntmps56
  go_wp2_with (go_at_call 73; with_reducible refine (HB.out _).mono ?_; rintro e w1 ⟨rfl, hb1⟩)
  go_ret
  exact ⟨rfl, hb1⟩
end Go.Proofs.Ytkecjopojnllnaa
namespace Go.Proofs.Ytkecjopojnllnaa
open Go.RowKit Go.Deep Go.Joins

theorem Reads.seg {w : World} {v : Value} {l : List Sg} (h : Reads w v 4 l.length (segCells l)) (k : Nat) (hk : k < l.length) :
    ∃ b off cap, v = .slice (some ⟨b, off, none⟩) l.length cap ∧ l.length ≤ cap ∧ cap ≤ maxLen ∧ b < w.heap.size ∧ w.cell? ⟨b, off + k * 4, none⟩ = some (.int .i64 l[k].num) ∧
      w.cell? ⟨b, off + k * 4 + 1, none⟩ = some (.string l[k].name) ∧ w.cell? ⟨b, off + k * 4 + 2, none⟩ = some (.string l[k].safe) ∧ w.cell? ⟨b, off + k * 4 + 3, none⟩ = some l[k].ov := by
  obtain ⟨b, off, cap, hv, h1, h2, hb, hc⟩ := h.at (by omega)
  obtain ⟨g0, g1, g2, g3⟩ := segCells_get l k hk
  exact ⟨b, off, cap, hv, h1, h2, hb, hc _ _ g0, hc _ _ g1, hc _ _ g2, hc _ _ g3⟩

set_option maxRecDepth 100000 in
set_option maxHeartbeats 1000000 in
theorem end_none (v : Value) (w : World) (hr : Reads w v 4 0 []) : Calls Try.prog 43 #[v] w fun e w' => e = .returned (.tuple #[.int .i64 0, .int .i64 0]) ∧ Below w.heap.size w w' := by
  obtain ⟨q, cap, rfl⟩ := hr.is
  go_enter Try.func43, Try.ntmps43
  go_wp2_with fail
  go_ret2
  exact ⟨rfl, Below.refl _ _⟩
set_option maxRecDepth 100000 in
set_option maxHeartbeats 1000000 in
theorem end_some (l : List Sg) (v : Value) (k : Nat) (hk : l.length = k + 1) (L : List Wr) (w : World) (hm : l.length ≤ 1099511627776) (hr : Reads w v 4 l.length (segCells l)) (ho : Reads w l[k].ov 2 L.length (wrCells L)) (hok : Okay [l[k].rw L]) :
    Calls Try.prog 43 #[v] w fun e w' => e = .returned (.tuple #[.int .i64 l[k].num, .int .i64 (layB l[k].safe L).size]) ∧ Below w.heap.size w w' := by
  obtain ⟨b, off, cap, rfl, _, _, hb, c0, c1, c2, c3⟩ := hr.seg k (by omega)
  obtain ⟨s, hs⟩ : ∃ s, l[k] = s := ⟨_, rfl⟩
  rw [hs] at c0 c1 c2 c3 ho hok
  rw [hs]
  generalize hw0 : w.alloc (.cells #[.int .i64 s.num, .string s.name, .string s.safe, .slice s.op s.ol s.oc] 84) = w0
  have hb0 : Below w.heap.size w w0 := hw0 ▸ below1 w _
  have k0 : w0.cell? ⟨w.heap.size, 0, none⟩ = some (.int .i64 s.num) := by rw [← hw0]; simp
  have k1 : w0.cell? ⟨w.heap.size, 1, none⟩ = some (.string s.name) := by rw [← hw0]; simp
  have k2 : w0.cell? ⟨w.heap.size, 2, none⟩ = some (.string s.safe) := by rw [← hw0]; simp
  have k3 : w0.cell? ⟨w.heap.size, 3, none⟩ = some (.slice s.op s.ol s.oc) := by rw [← hw0]; simp
  have hcel : ∀ W, Below w0.heap.size w0 W → W.cell? ⟨w.heap.size, 0, none⟩ = some (.int .i64 s.num) ∧ W.cell? ⟨w.heap.size, 1, none⟩ = some (.string s.name) ∧ W.cell? ⟨w.heap.size, 2, none⟩ = some (.string s.safe) ∧ W.cell? ⟨w.heap.size, 3, none⟩ = some (.slice s.op s.ol s.oc) :=
    fun W hW => ⟨below_cell hW k0, below_cell hW k1, below_cell hW k2, below_cell hW k3⟩
  have hbo := fun W (hW : Below w0.heap.size w0 W) => bytesOf_any s L W (ho.below (below_then hb0 hW)) hok
  have HB := Lib.hid hbo
  have HCEL := Lib.hid hcel
  have HW0 := Lib.hid hw0
  have HB0 := Lib.hid hb0
  have lg := lt_of_cell k0
  clear hbo ho hok hr hs hcel hw0 hb0
  have e1 : ((k + 1 : Nat) : Int) - 1 = (k : Int) := by omega
  rw [hk]
  unfold Sg.val at HB
  go_enter Try.func43, Try.ntmps43
  go_wp2_with fail
  rw [HW0.out]
  go_region_held3 (fun W => W.cell? ⟨w.heap.size, 0, none⟩ = some (.int .i64 s.num) ∧ W.cell? ⟨w.heap.size, 1, none⟩ = some (.string s.name) ∧ W.cell? ⟨w.heap.size, 2, none⟩ = some (.string s.safe) ∧ W.cell? ⟨w.heap.size, 3, none⟩ = some (.slice s.op s.ol s.oc))
    (first | exact HCEL.out _ (nb_refl _) | exact HCEL.out _ (nb_drew (nb_refl _)) | exact HCEL.out _ N2 | fail)
    (first | (go_at_call 56; with_reducible refine (HB.out _ (nb_drew (nb_refl _))).mono ?_; rintro e w2 ⟨rfl, hb2⟩; have N2 := below_then (nb_drew (nb_refl w0)) hb2) | fail)
  go_wp2_with fail
  go_ret2
  exact ⟨rfl, below_then HB0.out N2⟩
end Go.Proofs.Ytkecjopojnllnaa
namespace Go.Proofs.Ytkecjopojnllnaa
open Go.RowKit Go.Deep Go.Joins
def syncOp (x : ByteArray) : DOp := ⟨2, x, 0, ⟨#[]⟩⟩
def dropOp (x : ByteArray) : DOp := ⟨4, x, 0, ⟨#[]⟩⟩
def putOp (x : ByteArray) (n : Nat) (f : ByteArray) : DOp := ⟨1, x, (n : Int), f⟩
/-- The plan so far, the segment's number, and how many bytes it has. -/
structure Ap where
  plan : List DOp
  n : Nat
  size : Nat
def apOne (p : ByteArray) (a : Ap) (f : ByteArray) : Option Ap :=
  if 0 < a.size ∧ 65536 < a.size + f.size then
    (if 999999 ≤ a.n then none else some ⟨a.plan ++ [syncOp (nameOf p a.n)] ++ [putOp (nameOf p (a.n + 1)) 0 f], a.n + 1, f.size⟩)
  else some ⟨a.plan ++ [putOp (nameOf p a.n) a.size f], a.n, a.size + f.size⟩
def apStep (p : ByteArray) (o : Option Ap) (f : ByteArray) : Option Ap := o.bind fun a => apOne p a f
def apRun (p : ByteArray) (n s : Nat) (fs : List ByteArray) : Option Ap := fs.foldl (apStep p) (some ⟨[], n, s⟩)
theorem ap_none (p : ByteArray) (fs : List ByteArray) : fs.foldl (apStep p) none = none := by
  induction fs with
  | nil => rfl
  | cons f fs ih => exact ih
theorem ap_snoc (p : ByteArray) (n s : Nat) (fs : List ByteArray) (f : ByteArray) : apRun p n s (fs ++ [f]) = apStep p (apRun p n s fs) f := by
  unfold apRun
  rw [List.foldl_append]
  rfl
theorem ap_next {p : ByteArray} {n s : Nat} {fs : List ByteArray} {k : Nat} (hk : k < fs.length) {a : Ap} (h : apRun p n s (fs.take k) = some a) : apRun p n s (fs.take (k + 1)) = apOne p a fs[k] := by
  rw [List.take_succ_eq_append_getElem hk, ap_snoc, h]
  rfl
theorem ap_stop {p : ByteArray} {n s : Nat} {fs : List ByteArray} {k : Nat} (h : apRun p n s (fs.take k) = none) : apRun p n s fs = none := by
  unfold apRun at *
  rw [← List.take_append_drop k fs, List.foldl_append, h, ap_none]
/-- What holds of it on the way. -/
structure ApOk (a : Ap) (s k : Nat) : Prop where
  n : a.n ≤ 999999
  size : a.size ≤ s + k * 131081
  len : a.plan.length ≤ 2 * k
theorem ap_ok {p : ByteArray} {n s : Nat} {fs : List ByteArray} (hn : n ≤ 999999) (hf : ∀ f ∈ fs, f.size ≤ 131081) (k : Nat) (hk : k ≤ fs.length) (a : Ap) (h : apRun p n s (fs.take k) = some a) : ApOk a s k := by
  induction k generalizing a with
  | zero =>
    have h' : some (⟨[], n, s⟩ : Ap) = some a := h
    obtain rfl := Option.some.inj h'
    exact ⟨hn, by simp, by simp⟩
  | succ k ih =>
    cases hb : apRun p n s (fs.take k) with
    | none =>
      rw [List.take_succ_eq_append_getElem (by omega), ap_snoc, hb] at h
      cases h
    | some b =>
      rw [ap_next (by omega) hb] at h
      obtain ⟨h1, h2, h3⟩ := ih (by omega) b hb
      have hl := hf fs[k] (List.getElem_mem _)
      unfold apOne at h
      split at h
      · split at h
        · cases h
        · obtain rfl := Option.some.inj h
          refine ⟨by dsimp only; omega, by dsimp only; omega, by simp; omega⟩
      · obtain rfl := Option.some.inj h
        refine ⟨by dsimp only; omega, by dsimp only; omega, by simp; omega⟩
/-- The frames of records, if none is too long. -/
def shortR (R : List ByteArray) : Prop := ∀ r ∈ R, r.size ≤ 131072
def framesOf (R : List ByteArray) : List ByteArray := R.map frameB
theorem frames_size {R : List ByteArray} (h : shortR R) : ∀ f ∈ framesOf R, f.size ≤ 131081 := by
  intro f hf
  obtain ⟨r, hr, rfl⟩ := List.mem_map.1 hf
  have := h r hr
  rw [frameB_size]
  omega
end Go.Proofs.Ytkecjopojnllnaa
namespace Go.Proofs.Ytkecjopojnllnaa
open Go.RowKit Go.Deep Go.Joins
def FrPost (R : List ByteArray) (w : World) (e : Ending) (w' : World) : Prop :=
  (shortR R ∧ ∃ v', e = .returned (.tuple #[v', .int .i64 0]) ∧ w'.ownsRow w.heap.size 9 1 v' R.length (strs (framesOf R)) ∧ Below w.heap.size w w') ∨
  (¬ shortR R ∧ e = .returned (.tuple #[.slice none 0 0, .int .i64 2]) ∧ Below w.heap.size w w')
theorem frV_short {s : ByteArray} (h : s.size ≤ 131072) : frameV s = .tuple #[.string (frameB s), .int .i64 0] := if_pos h
theorem frV_long {s : ByteArray} (h : ¬ s.size ≤ 131072) : frameV s = .tuple #[.string ⟨#[]⟩, .int .i64 2] := if_neg h
theorem strs_snoc (P : List ByteArray) (k : Nat) (h : k < P.length) : strs (framesOf (P.take (k + 1))) = strs (framesOf (P.take k)) ++ [.string (frameB P[k])] := by
  unfold strs framesOf
  rw [List.take_succ_eq_append_getElem h, List.map_append, List.map_append]
  rfl
set_option maxRecDepth 100000 in
set_option maxHeartbeats 2000000 in
theorem frames_any (R : List ByteArray) (v : Value) (w : World) (hr : Reads w v 1 R.length (strs R)) (hm : R.length ≤ 1099511627776) (hs : ∀ r ∈ R, r.size ≤ 1099511627776) :
    Calls Try.prog 42 #[v] w (FrPost R w) := by
  obtain ⟨q, cap, rfl⟩ := hr.is
  obtain ⟨i0, hi, hz0, hz1, hz2⟩ := info_parts (show (Try.prog.info? 9).map (fun i => (i.zero, i.size, i.bytes)) = some (some (.string .empty), 1, 16) by kernel_rfl)
  have HS := Lib.hid hs
  clear hs
  go_enter Try.func42, Try.ntmps42
  go_wp2_with (with_reducible refine wpList_make_own _ rfl _ _ 27 rfl w.heap.size 9 i0 (.string .empty) 1 Try.underlying27 hi hz0 hz1 .i64 .i64 _ R.length rfl rfl rfl ?g1 ?g2 ?g3 ?_; rotate_right 1; intro w0 hown0 hg0; have HOWN0 := Lib.hid hown0; have HG0 := Lib.hid hg0; clear hown0 hg0)
  case g1 => rw [hz2]; omega
  case g2 => unfold maxLen; omega
  case g3 => exact Nat.le_refl _
  go_wp2_with fail
  go_loopw [14, 4] (fun i u wr => ∃ k : Nat, k ≤ R.length ∧ i = .int .i64 (k : Int) ∧ Hid (∀ r ∈ R.take k, r.size ≤ 131072) ∧ Hid (wr.ownsRow w.heap.size 9 1 u k (strs (framesOf (R.take k)))) ∧ Hid (¬ u = .slice none 0 0) ∧ Hid (Below w.heap.size w wr)) (fun i _ _ => R.length - (intOf i).toNat)
  case atStart => exact ⟨0, Nat.zero_le _, rfl, Lib.hid (fun r hr => by cases hr), HOWN0, Lib.hid (by simp), Lib.hid ((Below.refl _ w).grown HG0.out (Nat.le_refl _) (fun j hj => by cases hj))⟩
  case round =>
    obtain ⟨k, hk, rfl, hsh, hown, hnn, hbl⟩ := hrel
    obtain ⟨wo, hwo⟩ : ∃ wo, wo = wr := ⟨_, rfl⟩
    subst hwo
    by_cases hlt : k < R.length
    · obtain ⟨b1, off1, cap1, hv, _, _, hb1, c0⟩ := (hr.below hbl.out).str k hlt
      obtain ⟨rfl, rfl⟩ : q = some ⟨b1, off1, none⟩ ∧ cap = cap1 := by simpa using hv
      have hrs := HS.out R[k] (List.getElem_mem _)
      have HSN := Lib.hid (strs_snoc R k hlt)
      have HTK := Lib.hid (List.take_succ_eq_append_getElem hlt)
      have HMEM := Lib.hid (List.getElem_mem hlt)
      obtain ⟨r, hrk⟩ : ∃ r, R[k] = r := ⟨_, rfl⟩
      rw [hrk] at c0 hrs HSN HTK HMEM
      have hfr := fun W => frame_any r W hrs
      have HFR := Lib.hid hfr
      clear hv hfr hrk
      by_cases hshort : r.size ≤ 131072
      · rw [frV_short hshort] at HFR
        have HSZ := Lib.hid hshort
        clear hshort
        go_wp2_with (first
          | (go_at_call 46; (with_reducible refine (HFR.out _).mono ?_); rintro e w1 ⟨rfl, hb1⟩; have HB1 := Lib.hid hb1; clear hb1)
          | (at_builtin; refine wpList_append_own _ rfl _ _ 27 rfl w.heap.size 9 i0 (.string .empty) 1 16 Try.underlying27 hi hz0 hz1 hz2 rfl (by decide) _ k (strs (framesOf (R.take k))) rfl ?a1 ⟨w1.heap.size, 0, none⟩ 1 1 [.string (frameB r)] rfl rfl ?a2 ?a3 ?a4 ?a5 ?a6 ?_; rotate_right 1; intro v6 w6 hown6 hg6 hnil6; have HOWN6 := Lib.hid hown6; have HG6 := Lib.hid hg6; have HNIL6 := Lib.hid hnil6; clear hown6 hg6 hnil6)
          | fail)
        case a1 => exact owns_below (owns_below hown.out HB1.out) (below1 _ _)
        case a2 =>
          intro j u hu
          rw [add_lit, Nat.zero_add, cell_of_row _ _ _ _ 9 _ (heap_alloc_new w1 _)]
          simpa using hu
        case a3 =>
          intro u hu
          simp at hu
          rcases hu with rfl
          rfl
        case a4 => unfold maxLen; omega
        case a5 => omega
        case a6 => have := hbl.out.size; have := HB1.out.size; simp; omega
        go_roundw
        case rel =>
          have hbx := nb_alloc (below_then hbl.out HB1.out) (.cells #[.string (frameB r)] 9)
          refine ⟨k + 1, by omega, by go_num, ?_, ?_, ?_, ?_⟩
          · refine Lib.hid (fun x hx => ?_)
            rw [HTK.out, List.mem_append, List.mem_singleton] at hx
            rcases hx with hx | rfl
            · exact hsh.out x hx
            · exact HSZ.out
          · rw [HSN.out]
            exact HOWN6
          · refine Lib.hid (fun h => ?_)
            exact absurd (HNIL6.out.1 h) (by simp)
          · exact Lib.hid (below_grown hbx (owns_below (owns_below hown.out HB1.out) (below1 _ _)) HG6.out)
        case measure => simp [intOf]; omega
      · rw [frV_long hshort] at HFR
        have HSZ := Lib.hid hshort
        clear hshort
        go_wp2_with (first
          | (go_at_call 46; (with_reducible refine (HFR.out _).mono ?_); rintro e w1 ⟨rfl, hb1⟩; have HB1 := Lib.hid hb1; clear hb1)
          | fail)
        go_ret2
        exact Or.inr ⟨fun h => HSZ.out (h r HMEM.out), rfl, below_then hbl.out HB1.out⟩
    · obtain rfl : k = R.length := by omega
      go_wp2_with fail
      go_ret2
      have h1 := hsh.out
      have h2 := hown.out
      rw [List.take_length] at h1 h2
      exact Or.inl ⟨h1, _, rfl, h2, hbl.out⟩
end Go.Proofs.Ytkecjopojnllnaa
namespace Go.Proofs.Ytkecjopojnllnaa
open Go.RowKit Go.Deep Go.Joins
theorem nums_exist (p : ByteArray) (l : List Rw) : ∃ L, StrictN L ∧ (∀ n, n ∈ L ↔ hasN p l n) ∧ L.length ≤ 1000000 := by
  classical
  refine ⟨(List.range 1000000).filter (fun n => decide (hasN p l n)), ?_, fun n => ?_, Nat.le_trans (List.length_filter_le _ _) (by rw [List.length_range]; exact Nat.le_refl _)⟩
  · exact (List.pairwise_lt_range (n := 1000000)).filter _
  · rw [List.mem_filter, List.mem_range, decide_eq_true_eq]
    exact ⟨fun h => h.2, fun h => ⟨by have := hasN_le h; omega, h⟩⟩
/-- The last segment's number, and how many bytes it has. -/
def EndAt (p : ByteArray) (l : List Rw) (n s : Nat) : Prop :=
  ((∀ m, ¬ hasN p l m) ∧ n = 0 ∧ s = 0) ∨ (∃ r, (∀ m, hasN p l m → m ≤ n) ∧ l.find? (fun r => numB p r.name == some n) = some r ∧ s = (layB r.safe r.opens).size)
theorem find_has {p : ByteArray} {l : List Rw} {n : Nat} {r : Rw} (h : l.find? (fun r => numB p r.name == some n) = some r) : hasN p l n :=
  ⟨r, List.mem_of_find?_eq_some h, by simpa using List.find?_some h⟩
theorem EndAt.one {p : ByteArray} {l : List Rw} {n s n' s' : Nat} (h : EndAt p l n s) (h' : EndAt p l n' s') : n = n' ∧ s = s' := by
  rcases h with ⟨h1, rfl, rfl⟩ | ⟨r, h1, h2, rfl⟩
  · rcases h' with ⟨_, rfl, rfl⟩ | ⟨r', _, h3, _⟩
    · exact ⟨rfl, rfl⟩
    · exact absurd (find_has h3) (h1 _)
  · rcases h' with ⟨h3, _, _⟩ | ⟨r', h3, h4, rfl⟩
    · exact absurd (find_has h2) (h3 _)
    · have a := h1 _ (find_has h4)
      have b := h3 _ (find_has h2)
      obtain rfl : n = n' := by omega
      rw [h2] at h4
      obtain rfl := Option.some.inj h4
      exact ⟨rfl, rfl⟩
theorem strict_last {L : List Nat} (h : StrictN L) {k : Nat} (hk : L.length = k + 1) (m : Nat) (hm : m ∈ L) : m ≤ L[k] := by
  obtain ⟨j, hj, rfl⟩ := List.getElem_of_mem hm
  rcases Nat.lt_or_ge j k with h1 | h1
  · exact Nat.le_of_lt (List.pairwise_iff_getElem.1 h j k hj (by omega) h1)
  · obtain rfl : j = k := by omega
    exact Nat.le_refl _
theorem sgOf_ov {w : World} {n : Nat} {r : Rw} (h : Reads w r.ov 2 r.opens.length (wrCells r.opens)) : (sgOf n r).ov = r.ov := by
  obtain ⟨q, cap, e⟩ := h.is
  show Value.slice (slP r.ov) (slL r.ov) (slC r.ov) = r.ov
  rw [e]
  rfl
theorem end_segs (p : ByteArray) (l : List Rw) (L : List Nat) (D : List Sg) (v : Value) (B : Nat) (w : World) (hrow : w.ownsRow B 84 4 v D.length (segCells D)) (hS : SegsOf p l L D) (hL : StrictN L) (hLm : ∀ n, n ∈ L ↔ hasN p l n) (ho : Opens w l) (hok : Okay l) (hDl : D.length ≤ 1099511627776) :
    Calls Try.prog 43 #[v] w fun e w' => ∃ n s : Nat, e = .returned (.tuple #[.int .i64 (n : Int), .int .i64 (s : Int)]) ∧ EndAt p l n s ∧ n ≤ 999999 ∧ Below w.heap.size w w' := by
  have hr := reads_of_owns hrow
  rcases Nat.eq_zero_or_pos L.length with h0 | h0
  · have hD0 : D.length = 0 := by rw [hS.1, h0]
    have hDn : D = [] := List.eq_nil_of_length_eq_zero hD0
    subst hDn
    refine (end_none v w hr).mono fun e w' ⟨he, hb⟩ => ⟨0, 0, he, Or.inl ⟨fun m hm' => ?_, rfl, rfl⟩, by omega, hb⟩
    have h1 := (hLm m).2 hm'
    rw [List.eq_nil_of_length_eq_zero h0] at h1
    cases h1
  · obtain ⟨k, hk⟩ : ∃ k, L.length = k + 1 := ⟨L.length - 1, by omega⟩
    have hDk : D.length = k + 1 := by rw [hS.1, hk]
    obtain ⟨r, hf, hd⟩ := hS.2 k (by omega)
    have hdk : D[k] = sgOf L[k] r := by
      rw [List.getElem?_eq_getElem (by omega)] at hd
      exact Option.some.inj hd
    have hmem := List.mem_of_find?_eq_some hf
    have hov := sgOf_ov (n := L[k]) (ho r hmem)
    have hro : Reads w D[k].ov 2 r.opens.length (wrCells r.opens) := by rw [hdk, hov]; exact ho r hmem
    have hoki : Okay [D[k].rw r.opens] := by
      intro x hx
      rw [List.mem_singleton] at hx
      subst hx
      rw [hdk]
      exact hok r hmem
    refine (end_some D v k hDk r.opens w hDl hr hro hoki).mono fun e w' ⟨he, hb⟩ => ⟨L[k], (layB r.safe r.opens).size, ?_, Or.inr ⟨r, fun m hm' => strict_last hL hk m ((hLm m).2 hm'), hf, rfl⟩, ?_, hb⟩
    · rw [he, hdk]
      rfl
    · exact hasN_le (find_has hf)
/-- What Append tells: the plan, and the error. -/
def AppIs (p : ByteArray) (R : List ByteArray) (n s : Nat) (P : List DOp) (err : Int) : Prop :=
  (¬ shortR R ∧ P = [] ∧ err = 2) ∨ (shortR R ∧ ∃ a, apRun p n s (framesOf R) = some a ∧ P = a.plan ∧ err = 0) ∨ (shortR R ∧ apRun p n s (framesOf R) = none ∧ P = [] ∧ err = 4)
theorem AppIs.one {p : ByteArray} {R : List ByteArray} {n s : Nat} {P P' : List DOp} {err err' : Int} (h : AppIs p R n s P err) (h' : AppIs p R n s P' err') : P = P' ∧ err = err' := by
  rcases h with ⟨h1, rfl, rfl⟩ | ⟨h1, a, h2, rfl, rfl⟩ | ⟨h1, h2, rfl, rfl⟩
  · rcases h' with ⟨h3, rfl, rfl⟩ | ⟨h3, _⟩ | ⟨h3, _⟩
    · exact ⟨rfl, rfl⟩
    · exact absurd h3 h1
    · exact absurd h3 h1
  · rcases h' with ⟨h3, _⟩ | ⟨h3, a', h4, rfl, rfl⟩ | ⟨h3, h4, _⟩
    · exact absurd h1 h3
    · rw [h2] at h4
      obtain rfl := Option.some.inj h4
      exact ⟨rfl, rfl⟩
    · rw [h2] at h4
      cases h4
  · rcases h' with ⟨h3, _⟩ | ⟨h3, a', h4, _⟩ | ⟨h3, h4, rfl, rfl⟩
    · exact absurd h1 h3
    · rw [h2] at h4
      cases h4
    · exact ⟨rfl, rfl⟩
/-- A plan that the call owns. -/
def OwnP (w : World) (B : Nat) (v : Value) (P : List DOp) : Prop := w.ownsRow B 55 4 v P.length (dopCells P) ∧ (v = .slice none 0 0 ↔ P = [])
theorem OwnP.below {w w' : World} {B : Nat} {v : Value} {P : List DOp} (h : OwnP w B v P) (hb : Below w.heap.size w w') : OwnP w' B v P := ⟨owns_below h.1 hb, h.2⟩
theorem OwnP.reads {w : World} {B : Nat} {v : Value} {P : List DOp} (h : OwnP w B v P) : Reads w v 4 P.length (dopCells P) := reads_of_owns h.1
theorem OwnP.nil (w : World) (B : Nat) : OwnP w B (.slice none 0 0) [] := ⟨World.ownsRow_nil _ _ _ _, ⟨fun _ => rfl, fun _ => rfl⟩⟩
theorem dop_snoc (P : List DOp) (o : DOp) : dopCells (P ++ [o]) = dopCells P ++ [.int .i64 o.kind, .string o.name, .int .i64 o.pos, .string o.bytes] := by
  unfold dopCells
  rw [List.flatMap_append]
  simp
end Go.Proofs.Ytkecjopojnllnaa
namespace Go.Proofs.Ytkecjopojnllnaa
open Go.RowKit Go.Deep Go.Joins
theorem pref_size {p : ByteArray} (h : prefB p = true) : p.size ≤ 8 := by
  unfold prefB at h
  simp only [Bool.and_eq_true, decide_eq_true_eq] at h
  exact h.1.2
theorem end_exists (p : ByteArray) (l : List Rw) : ∃ n s, EndAt p l n s ∧ n ≤ 999999 := by
  obtain ⟨L, hL, hLm, _⟩ := nums_exist p l
  rcases Nat.eq_zero_or_pos L.length with h0 | h0
  · refine ⟨0, 0, Or.inl ⟨fun m hm => ?_, rfl, rfl⟩, by omega⟩
    have h1 := (hLm m).2 hm
    rw [List.eq_nil_of_length_eq_zero h0] at h1
    cases h1
  · obtain ⟨k, hk⟩ : ∃ k, L.length = k + 1 := ⟨L.length - 1, by omega⟩
    have hh := (hLm L[k]).1 (List.getElem_mem _)
    obtain ⟨r, hr, hn⟩ := hh
    have hf : (l.find? (fun r => numB p r.name == some L[k])).isSome = true := by
      rw [List.find?_isSome]
      exact ⟨r, hr, by simp [hn]⟩
    obtain ⟨r', hr'⟩ := Option.isSome_iff_exists.1 hf
    exact ⟨L[k], _, Or.inr ⟨r', fun m hm => strict_last hL hk m ((hLm m).2 hm), hr', rfl⟩, hasN_le (find_has hr')⟩
theorem end_size {p : ByteArray} {l : List Rw} {n s : Nat} (h : EndAt p l n s) (hok : Okay l) : s ≤ 140737489403904 := by
  rcases h with ⟨_, _, rfl⟩ | ⟨r, _, h2, rfl⟩
  · omega
  · obtain ⟨h3, h4, _⟩ := hok r (List.mem_of_find?_eq_some h2)
    exact layB_size _ _ h3 h4
/-- What a call of Append leaves. -/
def ApPost (p : ByteArray) (l : List Rw) (R : List ByteArray) (w : World) (e : Ending) (w' : World) : Prop :=
  ∃ (n s : Nat) (P : List DOp) (err : Int) (v' : Value), EndAt p l n s ∧ AppIs p R n s P err ∧ e = .returned (.tuple #[v', .int .i64 err]) ∧ Reads w' v' 4 P.length (dopCells P) ∧ Below w.heap.size w w'

set_option maxHeartbeats 1000000 in
theorem append_no (p : ByteArray) (dv rv : Value) (w : World) (hp : prefB p = false) :
    Calls Try.prog 16 #[.agg #[dv], .string p, rv] w fun e w' => e = .returned (.tuple #[.slice none 0 0, .int .i64 1]) ∧ Below w.heap.size w w' := by
  go_enter Try.func16, Try.ntmps16
  go_wp2_with (go_at_call 30; (with_reducible refine (mayBe_any p _).mono ?_); rintro e w1 ⟨rfl, rfl⟩; rw [hp])
  go_ret2
  exact ⟨rfl, below1 w _⟩
/-- One more in the plan. -/
theorem own_more {w2 : World} {B : Nat} {v2 : Value} {P : List DOp} {o : DOp} (h : w2.ownsRow B 55 4 v2 (P.length + 1) (dopCells P ++ [.int .i64 o.kind, .string o.name, .int .i64 o.pos, .string o.bytes])) (hn : ¬ v2 = .slice none 0 0) : OwnP w2 B v2 (P ++ [o]) := by
  refine ⟨?_, ⟨fun e => absurd e hn, fun e => by simp at e⟩⟩
  rw [dop_snoc, List.length_append]
  exact h
set_option maxRecDepth 100000 in
set_option maxHeartbeats 4000000 in
theorem append_yes (l : List Rw) (q : Option Addr) (cap : Nat) (p : ByteArray) (R : List ByteArray) (rv : Value) (w : World) (hp : prefB p = true) (hr : Reads w (.slice q l.length cap) 3 l.length (rowCells l)) (ho : Opens w l) (hok : Okay l) (hm : l.length ≤ 1099511627776) (hrec : Reads w rv 1 R.length (strs R)) (hRm : R.length ≤ 1099511627776) (hRs : ∀ r ∈ R, r.size ≤ 1099511627776) :
    Calls Try.prog 16 #[.agg #[.slice q l.length cap], .string p, rv] w (ApPost p l R w) := by
  obtain ⟨i0, hi, hz0, hz1, hz2⟩ := info_parts (show (Try.prog.info? 55).map (fun i => (i.zero, i.size, i.bytes)) = some (some (.agg #[.int .i64 0, .string .empty, .int .i64 0, .string .empty]), 4, 48) by kernel_rfl)
  have hp8 := pref_size hp
  go_enter Try.func16, Try.ntmps16
  go_wp2_with fail
  generalize hw0 : w.alloc (Obj.cells #[.slice q l.length cap] 24) = w0
  have hb0 : Below w.heap.size w w0 := hw0 ▸ below1 w _
  have hd0 : VarAt w0 w.heap.size (.slice q l.length cap) := hw0 ▸ VarAt.new w _
  have HB0 := Lib.hid hb0
  have HD0 := Lib.hid hd0
  clear hw0 hb0 hd0
  obtain ⟨L, hL, hLm, hLl⟩ := nums_exist p l
  have HL := Lib.hid hL
  have HLM := Lib.hid hLm
  clear hL hLm
  have hfr := frames_any R rv w0 (hrec.below HB0.out) hRm hRs
  have HR := Lib.hid hr
  have HO := Lib.hid ho
  have HOK := Lib.hid hok
  clear hr ho hok hrec hRs
  have HSG := Lib.hid (fun (W : World) (hb : Below w.heap.size w W) => segments_any l _ p W (HR.out.below hb) (fun r hr => (HO.out r hr).below hb) (by omega) hm)
  have HEN := Lib.hid (fun (W : World) (D Z : List Sg) (B : Nat) (v : Value) (hb : Below w.heap.size w W) (hD : D = dedup Z) (hRi : Rises Z) (hKe : Keeps (sgs p l) Z) (hrow : W.ownsRow B 84 4 v D.length (segCells D)) =>
    end_segs p l L D v B W hrow (segs_same hD hRi hKe HL.out HLM.out) HL.out HLM.out (fun r hr => (HO.out r hr).below hb) HOK.out (by rw [(segs_same hD hRi hKe HL.out HLM.out).1]; omega))
  by_cases hsh : shortR R
  · have HSH := Lib.hid hsh
    have hfr' : Calls Try.prog 42 #[rv] w0 fun e w' => ∃ v', e = .returned (.tuple #[v', .int .i64 0]) ∧ w'.ownsRow w0.heap.size 9 1 v' R.length (strs (framesOf R)) ∧ Below w0.heap.size w0 w' :=
      hfr.mono fun e w' h => by
        rcases h with h | h
        · exact h.2
        · exact absurd hsh h.1
    have HFR := Lib.hid hfr'
    clear hfr hfr' hsh
    go_wp2_with (first
      | (go_at_call 30; (with_reducible refine (mayBe_any p _).mono ?_); rintro e w1 ⟨rfl, rfl⟩; rw [hp])
      | (go_at_call 42; (with_reducible refine HFR.out.mono ?_); rintro e w1 ⟨v1, rfl, hown1, hb1⟩; obtain ⟨q1, c1, rfl⟩ := owns_shape hown1; have HOWN1 := Lib.hid hown1; have HB1 := Lib.hid hb1; have d1 := (HD0.out.keep hb1).c; clear hown1 hb1)
      | (go_at_call 31; (with_reducible refine (HSG.out _ (below_then HB0.out HB1.out)).mono ?_); rintro e w2 ⟨v2, D, Z, rfl, hrow, hD, hRi, hKe, hb2⟩; have HEN2 := Lib.hid (HEN.out _ D Z _ v2 (below_then (below_then HB0.out HB1.out) hb2) hD hRi hKe hrow); have HB2 := Lib.hid hb2; clear hrow hD hRi hKe hb2)
      | (go_at_call 43; (with_reducible refine HEN2.out.mono ?_); rintro e w3 ⟨n, s, rfl, hE, hn9, hb3⟩; have HE := Lib.hid hE; have HB3 := Lib.hid hb3; clear hE hb3)
      | fail)
    have hFl : (framesOf R).length = R.length := List.length_map _
    have hrf : Reads w3 (.slice q1 R.length c1) 1 (framesOf R).length (strs (framesOf R)) := by
      rw [hFl]
      exact ((reads_of_owns HOWN1.out).below HB2.out).below HB3.out
    have HRF := Lib.hid hrf
    have hfs := frames_size HSH.out
    have HFS := Lib.hid hfs
    obtain ⟨F, hF⟩ : ∃ F, framesOf R = F := ⟨_, rfl⟩
    rw [hF] at hFl HRF HFS
    have HF := Lib.hid hF
    clear hrf hfs hF d1
    have hs := end_size HE.out HOK.out
    have HFL := Lib.hid hFl
    have HS9 := Lib.hid (And.intro hs hn9)
    clear hFl hs hn9
    have hb03 := below_then HB0.out (below_then HB1.out (below_then HB2.out HB3.out))
    have HB03 := Lib.hid hb03
    have hsz3 := hb03.size
    clear hb03
    go_loopw [35, 10, 11, 12] (fun i u x y wr => ∃ (k : Nat) (a : Ap), k ≤ R.length ∧ i = .int .i64 (k : Int) ∧ x = .int .i64 (a.n : Int) ∧ y = .int .i64 (a.size : Int) ∧ Hid (apRun p n s (F.take k) = some a) ∧ Hid (OwnP wr w3.heap.size u a.plan) ∧ Hid (Below w3.heap.size w3 wr)) (fun i _ _ _ _ => R.length - (intOf i).toNat)
    case atStart => exact ⟨0, ⟨[], n, s⟩, Nat.zero_le _, rfl, rfl, rfl, Lib.hid rfl, Lib.hid (OwnP.nil _ _), Lib.hid (Below.refl _ _)⟩
    case round =>
      obtain ⟨k, a, hk, rfl, rfl, rfl, hrun, hown, hbl⟩ := hrel
      obtain ⟨wo, hwo⟩ : ∃ wo, wo = wr := ⟨_, rfl⟩
      subst hwo
      have hA := ap_ok HS9.out.2 HFS.out k (by rw [HFL.out]; exact hk) a hrun.out
      have ha : a.size ≤ 1000000000000000000 := by have := hA.size; have := HS9.out.1; omega
      have hA1 := hA.n
      have HA3 := Lib.hid hA.len
      clear hA
      by_cases hlt : k < R.length
      · obtain ⟨b1, off1, cap1, hv, _, _, hb1, c0⟩ := (HRF.out.below hbl.out).str k (by rw [HFL.out]; exact hlt)
        obtain ⟨rfl, rfl⟩ : q1 = some ⟨b1, off1, none⟩ ∧ c1 = cap1 := by
          injection hv with e1 e2 e3
          exact ⟨e1, e3⟩
        have hkF : k < F.length := by rw [HFL.out]; exact hlt
        have hfk := HFS.out F[k] (List.getElem_mem hkF)
        have hnx := ap_next hkF hrun.out
        obtain ⟨f, hff⟩ : ∃ f, F[k] = f := ⟨_, rfl⟩
        rw [hff] at c0 hfk hnx
        have HNX := Lib.hid hnx
        clear hv hff hnx hkF
        have wsum : IntKind.i64.wrap ((a.size : Int) + (f.size : Int)) = (a.size : Int) + (f.size : Int) := IntWalk.i64_in _ (by omega)
        by_cases hfull : 0 < a.size ∧ 65536 < a.size + f.size
        · obtain ⟨hu1, hu2⟩ := hfull
          have t1 : decide ((0 : Int) < (a.size : Int)) = true := decide_eq_true (by omega)
          have t2 : decide ((65536 : Int) < (a.size : Int) + (f.size : Int)) = true := decide_eq_true (by omega)
          by_cases h9 : 999999 ≤ a.n
          · have t3 : decide ((999999 : Int) ≤ (a.n : Int)) = true := decide_eq_true (by omega)
            have HU := Lib.hid (And.intro hu1 (And.intro hu2 h9))
            clear hu2 h9
            go_wp2_with fail
            go_ret2
            have hst : apRun p n s F = none := by
              have h1 := HNX.out
              unfold apOne at h1
              rw [if_pos ⟨hu1, HU.out.2.1⟩, if_pos HU.out.2.2] at h1
              exact ap_stop h1
            rw [← HF.out] at hst
            exact ⟨n, s, [], 4, _, HE.out, Or.inr (Or.inr ⟨HSH.out, hst, rfl, rfl⟩), rfl, reads_nil _ _, below_then HB03.out hbl.out⟩
          · have t3 : decide ((999999 : Int) ≤ (a.n : Int)) = false := decide_eq_false (by omega)
            have t4 : ¬ 999999 ≤ a.n := h9
            obtain ⟨m, hm⟩ : ∃ m, m = a.n + 1 := ⟨_, rfl⟩
            have hmI : (a.n : Int) + 1 = (m : Int) := by omega
            have HM := Lib.hid hm
            have HU := Lib.hid hu2
            clear hm hu2 h9
            go_wp2_with (first
              | (go_at_call 22; (with_reducible refine (name_any p a.n _ (by omega) (by omega)).mono ?_); rintro e w4 ⟨rfl, hb4⟩; have HB4 := Lib.hid hb4; clear hb4)
              | (go_at_call 44; (with_reducible refine (syncOf_any _ _).mono ?_); rintro e w5 ⟨rfl, hb5⟩; have HB5 := Lib.hid hb5; clear hb5; unfold syncV)
              | (go_at_call 22; (with_reducible refine (name_any p m _ (by omega) (by omega)).mono ?_); rintro e w7 ⟨rfl, hb7⟩; have HB7 := Lib.hid hb7; clear hb7)
              | (at_builtin; refine wpList_append_own _ rfl _ _ 28 rfl w3.heap.size 55 i0 (.agg #[.int .i64 0, .string .empty, .int .i64 0, .string .empty]) 4 48 Try.underlying28 hi hz0 hz1 hz2 rfl (by decide) _ a.plan.length (dopCells a.plan) rfl ?b1 ⟨w5.heap.size, 0, none⟩ 1 1 [.int .i64 2, .string (nameOf p a.n), .int .i64 0, .string ⟨#[]⟩] rfl rfl ?b2 ?b3 ?b4 ?b5 ?b6 ?_; rotate_right 1; intro v6 w6 hown hg hnil; have HOWN_b := Lib.hid hown; have HG_b := Lib.hid hg; have HNIL_b := Lib.hid hnil; clear hown hg hnil)
              | (at_builtin; refine wpList_append_own _ rfl _ _ 28 rfl w3.heap.size 55 i0 (.agg #[.int .i64 0, .string .empty, .int .i64 0, .string .empty]) 4 48 Try.underlying28 hi hz0 hz1 hz2 rfl (by decide) _ (a.plan.length + 1) (dopCells a.plan ++ [.int .i64 2, .string (nameOf p a.n), .int .i64 0, .string ⟨#[]⟩]) rfl ?d1 ⟨w7.heap.size, 0, none⟩ 1 1 [.int .i64 1, .string (nameOf p m), .int .i64 0, .string f] rfl rfl ?d2 ?d3 ?d4 ?d5 ?d6 ?_; rotate_right 1; intro v8 w8 hown hg hnil; have HOWN_d := Lib.hid hown; have HG_d := Lib.hid hg; have HNIL_d := Lib.hid hnil; clear hown hg hnil)
              | fail)
            case b1 => exact owns_below (owns_below (owns_below hown.out.1 HB4.out) HB5.out) (below1 _ _)
            case b2 =>
              intro j u hu
              rw [add_lit, Nat.zero_add, cell_of_row _ _ _ _ 55 _ (heap_alloc_new w5 _)]
              simpa using hu
            case b3 =>
              intro u hu
              simp at hu
              rcases hu with rfl | rfl | rfl | rfl <;> rfl
            case b4 => have := HA3.out; unfold maxLen; omega
            case b5 => have := HA3.out; omega
            case b6 => have := hbl.out.size; have := HB4.out.size; have := HB5.out.size; simp; omega
            case d1 => exact owns_below (owns_below HOWN_b.out HB7.out) (below1 _ _)
            case d2 =>
              intro j u hu
              rw [add_lit, Nat.zero_add, cell_of_row _ _ _ _ 55 _ (heap_alloc_new w7 _)]
              simpa using hu
            case d3 =>
              intro u hu
              simp at hu
              rcases hu with rfl | rfl | rfl | rfl <;> rfl
            case d4 => have := HA3.out; unfold maxLen; omega
            case d5 => have := HA3.out; omega
            case d6 => have := hbl.out.size; have := HB4.out.size; have := HB5.out.size; have h8 := HG_b.out.size; simp at h8; have := HB7.out.size; simp; omega
            have o1 := owns_below (owns_below (owns_below hown.out.1 HB4.out) HB5.out) (below1 w5 (.cells #[.int .i64 2, .string (nameOf p a.n), .int .i64 0, .string ⟨#[]⟩] 55))
            have bx1 := nb_alloc (below_then (below_then hbl.out HB4.out) HB5.out) (.cells #[.int .i64 2, .string (nameOf p a.n), .int .i64 0, .string ⟨#[]⟩] 55)
            have bx2 := below_grown bx1 o1 HG_b.out
            have o2 := owns_below (owns_below HOWN_b.out HB7.out) (below1 w7 (.cells #[.int .i64 1, .string (nameOf p m), .int .i64 0, .string f] 55))
            have bx3 := nb_alloc (below_then bx2 HB7.out) (.cells #[.int .i64 1, .string (nameOf p m), .int .i64 0, .string f] 55)
            have bx4 := below_grown bx3 o2 HG_d.out
            refine ⟨⟨k + 1, ⟨a.plan ++ [syncOp (nameOf p a.n)] ++ [putOp (nameOf p m) 0 f], m, f.size⟩, by omega, by go_num, rfl, rfl, ?_, ?_, Lib.hid bx4⟩, by simp [intOf]; omega⟩
            · refine Lib.hid ?_
              rw [HNX.out]
              unfold apOne
              rw [if_pos ⟨hu1, HU.out⟩, if_neg t4, HM.out]
            · refine Lib.hid (own_more ?_ (fun h => absurd (HNIL_d.out.1 h) (by simp)))
              rw [dop_snoc, List.length_append]
              exact HOWN_d.out
        · have HNF := Lib.hid hfull
          by_cases hz : 0 < a.size
          · have t2 : decide ((65536 : Int) < (a.size : Int) + (f.size : Int)) = false := decide_eq_false (fun h => hfull ⟨hz, by omega⟩)
            clear hfull
            go_wp2_with (first
              | (go_at_call 22; (with_reducible refine (name_any p a.n _ (by omega) (by omega)).mono ?_); rintro e w4 ⟨rfl, hb4⟩; have HB4 := Lib.hid hb4; clear hb4)
              | (at_builtin; refine wpList_append_own _ rfl _ _ 28 rfl w3.heap.size 55 i0 (.agg #[.int .i64 0, .string .empty, .int .i64 0, .string .empty]) 4 48 Try.underlying28 hi hz0 hz1 hz2 rfl (by decide) _ a.plan.length (dopCells a.plan) rfl ?e1 ⟨w4.heap.size, 0, none⟩ 1 1 [.int .i64 1, .string (nameOf p a.n), .int .i64 (a.size : Int), .string f] rfl rfl ?e2 ?e3 ?e4 ?e5 ?e6 ?_; rotate_right 1; intro v6 w6 hown hg hnil; have HOWN_e := Lib.hid hown; have HG_e := Lib.hid hg; have HNIL_e := Lib.hid hnil; clear hown hg hnil)
              | fail)
            case e1 => exact owns_below (owns_below hown.out.1 HB4.out) (below1 _ _)
            case e2 =>
              intro j u hu
              rw [add_lit, Nat.zero_add, cell_of_row _ _ _ _ 55 _ (heap_alloc_new w4 _)]
              simpa using hu
            case e3 =>
              intro u hu
              simp at hu
              rcases hu with rfl | rfl | rfl | rfl <;> rfl
            case e4 => have := HA3.out; unfold maxLen; omega
            case e5 => have := HA3.out; omega
            case e6 => have := hbl.out.size; have := HB4.out.size; simp; omega
            have o1 := owns_below (owns_below hown.out.1 HB4.out) (below1 w4 (.cells #[.int .i64 1, .string (nameOf p a.n), .int .i64 (a.size : Int), .string f] 55))
            have bx1 := nb_alloc (below_then hbl.out HB4.out) (.cells #[.int .i64 1, .string (nameOf p a.n), .int .i64 (a.size : Int), .string f] 55)
            have bx2 := below_grown bx1 o1 HG_e.out
            refine ⟨⟨k + 1, ⟨a.plan ++ [putOp (nameOf p a.n) a.size f], a.n, a.size + f.size⟩, by omega, by go_num, rfl, by simp, ?_, ?_, Lib.hid bx2⟩, by simp [intOf]; omega⟩
            · refine Lib.hid ?_
              rw [HNX.out]
              unfold apOne
              rw [if_neg HNF.out]
            · exact Lib.hid (own_more HOWN_e.out (fun h => absurd (HNIL_e.out.1 h) (by simp)))
          · skip
            clear hfull
            go_wp2_with (first
              | (go_at_call 22; (with_reducible refine (name_any p a.n _ (by omega) (by omega)).mono ?_); rintro e w4 ⟨rfl, hb4⟩; have HB4 := Lib.hid hb4; clear hb4)
              | (at_builtin; refine wpList_append_own _ rfl _ _ 28 rfl w3.heap.size 55 i0 (.agg #[.int .i64 0, .string .empty, .int .i64 0, .string .empty]) 4 48 Try.underlying28 hi hz0 hz1 hz2 rfl (by decide) _ a.plan.length (dopCells a.plan) rfl ?g1 ⟨w4.heap.size, 0, none⟩ 1 1 [.int .i64 1, .string (nameOf p a.n), .int .i64 (a.size : Int), .string f] rfl rfl ?g2 ?g3 ?g4 ?g5 ?g6 ?_; rotate_right 1; intro v6 w6 hown hg hnil; have HOWN_g := Lib.hid hown; have HG_g := Lib.hid hg; have HNIL_g := Lib.hid hnil; clear hown hg hnil)
              | fail)
            case g1 => exact owns_below (owns_below hown.out.1 HB4.out) (below1 _ _)
            case g2 =>
              intro j u hu
              rw [add_lit, Nat.zero_add, cell_of_row _ _ _ _ 55 _ (heap_alloc_new w4 _)]
              simpa using hu
            case g3 =>
              intro u hu
              simp at hu
              rcases hu with rfl | rfl | rfl | rfl <;> rfl
            case g4 => have := HA3.out; unfold maxLen; omega
            case g5 => have := HA3.out; omega
            case g6 => have := hbl.out.size; have := HB4.out.size; simp; omega
            have o1 := owns_below (owns_below hown.out.1 HB4.out) (below1 w4 (.cells #[.int .i64 1, .string (nameOf p a.n), .int .i64 (a.size : Int), .string f] 55))
            have bx1 := nb_alloc (below_then hbl.out HB4.out) (.cells #[.int .i64 1, .string (nameOf p a.n), .int .i64 (a.size : Int), .string f] 55)
            have bx2 := below_grown bx1 o1 HG_g.out
            refine ⟨⟨k + 1, ⟨a.plan ++ [putOp (nameOf p a.n) a.size f], a.n, a.size + f.size⟩, by omega, by go_num, rfl, by simp, ?_, ?_, Lib.hid bx2⟩, by simp [intOf]; omega⟩
            · refine Lib.hid ?_
              rw [HNX.out]
              unfold apOne
              rw [if_neg HNF.out]
            · exact Lib.hid (own_more HOWN_g.out (fun h => absurd (HNIL_g.out.1 h) (by simp)))
      · obtain rfl : k = R.length := by omega
        go_wp2_with fail
        go_ret2
        have h1 := hrun.out
        rw [← HFL.out, List.take_length, ← HF.out] at h1
        exact ⟨n, s, a.plan, 0, _, HE.out, Or.inr (Or.inl ⟨HSH.out, a, h1, rfl, rfl⟩), rfl, hown.out.reads, below_then HB03.out hbl.out⟩
  · have hfr' : Calls Try.prog 42 #[rv] w0 fun e w' => e = .returned (.tuple #[.slice none 0 0, .int .i64 2]) ∧ Below w0.heap.size w0 w' :=
      hfr.mono fun e w' h => by
        rcases h with h | h
        · exact absurd h.1 hsh
        · exact h.2
    have HFR := Lib.hid hfr'
    have HSH := Lib.hid hsh
    clear hfr hfr' hsh
    go_wp2_with (first
      | (go_at_call 30; (with_reducible refine (mayBe_any p _).mono ?_); rintro e w1 ⟨rfl, rfl⟩; rw [hp])
      | (go_at_call 42; (with_reducible refine HFR.out.mono ?_); rintro e w1 ⟨rfl, hb1⟩; have HB1 := Lib.hid hb1; clear hb1)
      | fail)
    go_ret2
    obtain ⟨n, s, hE, _⟩ := end_exists p l
    exact ⟨n, s, [], 2, _, hE, Or.inl ⟨HSH.out, rfl, rfl⟩, rfl, reads_nil _ _, below_then HB0.out HB1.out⟩
end Go.Proofs.Ytkecjopojnllnaa
namespace Go.Proofs.Ytkecjopojnllnaa
open Go.RowKit Go.Deep Go.Joins
/-- Files whose parts are of sizes that the reference's bytes want. -/
def Smalls (l : List Rw) : Prop := ∀ r ∈ l, r.safe.size ≤ 1099511627776 ∧ r.opens.length ≤ 1099511627776 ∧ ∀ x ∈ r.opens, x.bytes.size ≤ 1099510579200
theorem Smalls.okay {l : List Rw} (h : Smalls l) : Okay l := by
  intro r hr
  obtain ⟨h1, h2, h3⟩ := h r hr
  exact ⟨by omega, fun x hx => by have := h3 x hx; omega, by omega⟩
def EndR (p : ByteArray) (l : List Rw) (W : World) (x y : Value) (wx : World) : Prop := ∃ n s : Nat, x = .int .i64 (n : Int) ∧ y = .int .i64 (s : Int) ∧ EndAt p l n s ∧ n ≤ 999999 ∧ Below W.heap.size W wx
set_option maxHeartbeats 1000000 in
theorem append3_no (p : ByteArray) (dv rv : Value) (w : World) (hp : prefB p = false) :
    Calls Try.prog 17 #[.agg #[dv], .string p, rv] w fun e w' => e = .returned (.tuple #[.slice none 0 0, .int .i64 1]) ∧ Below w.heap.size w w' := by
  go_enter Try.func17, Try.ntmps17
  go_wp2_with (go_at_call 36; (with_reducible refine (prefix_any p _).mono ?_); rintro e w1 ⟨rfl, rfl⟩; rw [hp])
  go_ret2
  exact ⟨rfl, below1 w _⟩
set_option maxRecDepth 100000 in
set_option maxHeartbeats 4000000 in
theorem append3_yes (l : List Rw) (q : Option Addr) (cap : Nat) (p : ByteArray) (R : List ByteArray) (rv : Value) (w : World) (hp : prefB p = true) (hr : Reads w (.slice q l.length cap) 3 l.length (rowCells l)) (ho : Opens w l) (hsm : Smalls l) (hm : l.length ≤ 1099511627776) (hrec : Reads w rv 1 R.length (strs R)) (hRm : R.length ≤ 1099511627776) (hRs : ∀ r ∈ R, r.size ≤ 1099511627776) :
    Calls Try.prog 17 #[.agg #[.slice q l.length cap], .string p, rv] w (ApPost p l R w) := by
  obtain ⟨i0, hi, hz0, hz1, hz2⟩ := info_parts (show (Try.prog.info? 55).map (fun i => (i.zero, i.size, i.bytes)) = some (some (.agg #[.int .i64 0, .string .empty, .int .i64 0, .string .empty]), 4, 48) by kernel_rfl)
  obtain ⟨q1, c1, rfl⟩ := hrec.is
  have hp8 := pref_size hp
  go_enter Try.func17, Try.ntmps17
  go_wp2_with fail
  generalize hw0 : w.alloc (Obj.cells #[.slice q l.length cap] 24) = w0
  have hb0 : Below w.heap.size w w0 := hw0 ▸ below1 w _
  have hd0 : VarAt w0 w.heap.size (.slice q l.length cap) := hw0 ▸ VarAt.new w _
  have HB0 := Lib.hid hb0
  have HD0 := Lib.hid hd0
  have d0 := hd0.c
  clear hw0 hb0 hd0
  have hrec0 := hrec.below HB0.out
  have HREC := Lib.hid hrec0
  have HR := Lib.hid hr
  have HO := Lib.hid ho
  have HSM := Lib.hid hsm
  have HRS := Lib.hid hRs
  clear hr ho hsm hrec hrec0 hRs
  go_wp2_with (first
    | (go_at_call 36; (with_reducible refine (prefix_any p _).mono ?_); rintro e w1 ⟨rfl, rfl⟩; rw [hp])
    | fail)
  go_loop [8] (fun i => ∃ k : Nat, k ≤ R.length ∧ i = .int .i64 (k : Int) ∧ Hid (∀ r ∈ R.take k, r.size ≤ 131072)) (fun i => R.length - (intOf i).toNat)
  case atStart => exact ⟨0, Nat.zero_le _, rfl, Lib.hid (fun r hr => by cases hr)⟩
  case round =>
    obtain ⟨k, hk, rfl, hsh⟩ := hrel
    by_cases hlt : k < R.length
    · obtain ⟨b1, off1, cap1, hv, _, _, hb1, c0⟩ := HREC.out.str k hlt
      obtain ⟨rfl, rfl⟩ : q1 = some ⟨b1, off1, none⟩ ∧ c1 = cap1 := by
        injection hv with e1 e2 e3
        exact ⟨e1, e3⟩
      have HTK := Lib.hid (List.take_succ_eq_append_getElem hlt)
      have HMEM := Lib.hid (List.getElem_mem hlt)
      obtain ⟨r, hrk⟩ : ∃ r, R[k] = r := ⟨_, rfl⟩
      rw [hrk] at c0 HTK HMEM
      clear hv hrk
      by_cases hlong : 131072 < r.size
      · have t1 : decide ((131072 : Int) < (r.size : Int)) = true := decide_eq_true (by omega)
        go_wp2_with fail
        go_ret2
        obtain ⟨n, s, hE, _⟩ := end_exists p l
        exact ⟨n, s, [], 2, _, hE, Or.inl ⟨fun h => by have := h r HMEM.out; omega, rfl, rfl⟩, rfl, reads_nil _ _, HB0.out⟩
      · have t1 : decide ((131072 : Int) < (r.size : Int)) = false := decide_eq_false (by omega)
        go_wp2_with fail
        go_round
        case rel =>
          refine ⟨k + 1, by omega, by go_num, Lib.hid (fun x hx => ?_)⟩
          rw [HTK.out, List.mem_append, List.mem_singleton] at hx
          rcases hx with hx | rfl
          · exact hsh.out x hx
          · omega
        case measure => simp [intOf]; omega
    · obtain rfl : k = R.length := by omega
      have hshort : shortR R := by have := hsh.out; rwa [List.take_length] at this
      have HSH := Lib.hid hshort
      clear hshort hsh
      have HSG := Lib.hid (segments2_any l _ p w0 (HR.out.below HB0.out) (by omega) hm)
      go_upto_if 38 with (first
        | (go_at_call 37; (with_reducible refine HSG.out.mono ?_); rintro e w2 ⟨v2, L, rfl, hOL, hL, hLm, hb2⟩; obtain ⟨q2, c2, rfl⟩ := owns_shape hOL.1; have HOL := Lib.hid hOL; have HL := Lib.hid hL; have HLM := Lib.hid hLm; have HB2 := Lib.hid hb2; clear hOL hL hLm hb2)
        | fail)
      have hb02 := below_then HB0.out HB2.out
      have HB02 := Lib.hid hb02
      have d2 := (HD0.out.keep HB2.out).c
      have l2 := lt_of_cell d2
      clear hb02 d0
      go_cut [10, 11, 12, 13] from 36 (fun x y _ _ wx => EndR p l w2 x y wx)
      case first =>
        by_cases hLz : L = []
        · subst hLz
          obtain ⟨rfl, rfl⟩ : q2 = none ∧ c2 = 0 := by
            have h1 := HOL.out.2.2 rfl
            injection h1 with e1 e2 e3
            exact ⟨e1, e3⟩
          go_wp2_with fail
          go_meet
          refine ⟨0, 0, rfl, rfl, Or.inl ⟨fun m hm' => ?_, rfl, rfl⟩, by omega, Below.refl _ _⟩
          have h1 := (HLM.out m).2 hm'
          cases h1
        · obtain ⟨g, cap2, hv2, hcc, hcm, hg, _, hcL⟩ := HOL.out.is hLz
          obtain ⟨rfl, rfl⟩ : q2 = some ⟨g, 0, none⟩ ∧ c2 = cap2 := by
            injection hv2 with e1 e2 e3
            exact ⟨e1, e3⟩
          obtain ⟨k, hk⟩ : ∃ k, L.length = k + 1 := ⟨L.length - 1, by have := List.length_pos_iff.2 hLz; omega⟩
          have e0 : (L.length : Int) - 1 = (k : Int) := by omega
          have h0 : 0 < L.length := by omega
          have hkl : k < L.length := by omega
          have hkb : k ≤ 9223372036854775806 := by
            have h1 := HOL.out.1.1
            unfold maxLen at hcm
            omega
          clear hcm hcc
          have ck := hcL k hkl
          obtain ⟨r, hr, hn⟩ := (HLM.out L[k]).1 (List.getElem_mem _)
          have hf : (l.find? (fun r => numB p r.name == some L[k])).isSome = true := by
            rw [List.find?_isSome]
            exact ⟨r, hr, by simp [hn]⟩
          obtain ⟨r', hr'⟩ := Option.isSome_iff_exists.1 hf
          obtain ⟨j, hjl, hidx, hlj, _, hn9⟩ := find_name hr'
          have HE : Hid (EndAt p l L[k] (layB r'.safe r'.opens).size) := Lib.hid (Or.inr ⟨r', fun m hm' => strict_last HL.out hk m ((HLM.out m).2 hm'), hr', rfl⟩)
          obtain ⟨z1, z2, z3⟩ := HSM.out l[j] (List.getElem_mem _)
          have hby := fun (W : World) (hb : Below w.heap.size w W) => bytes2_some l _ (nameOf p L[k]) W j hjl (HR.out.below hb) (fun r hr => (HO.out r hr).below hb) hm z1 z2 z3 hidx
          rw [hlj] at hby
          have HBY := Lib.hid hby
          obtain ⟨n, hnk⟩ : ∃ n, L[k] = n := ⟨_, rfl⟩
          rw [hnk] at ck HE HBY hn9
          have hE9 := end_size HE.out HSM.out.okay
          clear hby hn hf hr hr' hidx hlj z1 z2 z3 hnk hv2 hcL hk hLz
          go_wp2_with fail
          go_region_held3 (fun W => W.cell? ⟨w.heap.size, 0, none⟩ = some (.slice q l.length cap)) (first | with_reducible exact d2 | with_reducible exact (HD0.out.keep (below_then HB2.out (nb_drew (nb_refl w2)))).c | with_reducible exact (HD0.out.keep (below_then HB2.out N5.out)).c | with_reducible exact (HD0.out.keep (below_then HB2.out N4.out)).c | go_keep)
            (first
              | (go_at_call 23; with_reducible refine (name3_any p n _ (by omega) (by omega)).mono ?_; rintro e w4 ⟨rfl, hb4⟩; have N4 := Lib.hid (below_then (nb_drew (nb_refl w2)) hb4); clear hb4)
              | (go_at_call 39; with_reducible refine (HBY.out _ (below_then HB02.out N4.out)).mono ?_; rintro e w5 ⟨rfl, hb5⟩; have N5 := Lib.hid (below_then N4.out hb5); clear hb5)
              | fail)
          go_wp2_with fail
          go_meet
          exact ⟨n, _, rfl, rfl, HE.out, hn9, N5.out⟩
      case rest =>
        obtain ⟨n, s, rfl, rfl, hE, hn9, hb3⟩ := hcut
        have HE := Lib.hid hE
        have HB03 := Lib.hid (below_then HB02.out hb3)
        have HRX := Lib.hid ((HREC.out.below HB2.out).below hb3)
        have hs := end_size HE.out HSM.out.okay
        have hFl : (framesOf R).length = R.length := List.length_map _
        have hfs := frames_size HSH.out
        have HFS := Lib.hid hfs
        have HFL := Lib.hid hFl
        have HS9 := Lib.hid (And.intro hs hn9)
        have hszc := HB03.out.size
        clear hE hb3 hs hFl hfs hn9 d2 l2
        go_wp2_with fail
        go_loopw [15, 14, 10, 11] (fun i u x y wr => ∃ (k : Nat) (a : Ap), k ≤ R.length ∧ i = .int .i64 (k : Int) ∧ x = .int .i64 (a.n : Int) ∧ y = .int .i64 (a.size : Int) ∧ Hid (apRun p n s ((framesOf R).take k) = some a) ∧ Hid (OwnP wr wc.heap.size u a.plan) ∧ Hid (Below wc.heap.size wc wr)) (fun i _ _ _ _ => R.length - (intOf i).toNat)
        case atStart => exact ⟨0, ⟨[], n, s⟩, Nat.zero_le _, rfl, rfl, rfl, Lib.hid rfl, Lib.hid (OwnP.nil _ _), Lib.hid (Below.refl _ _)⟩
        case round =>
          obtain ⟨k, a, hk, rfl, rfl, rfl, hrun, hown, hbl⟩ := hrel
          obtain ⟨wo, hwo⟩ : ∃ wo, wo = wr := ⟨_, rfl⟩
          subst hwo
          have hA := ap_ok HS9.out.2 HFS.out k (by rw [HFL.out]; exact hk) a hrun.out
          have ha : a.size ≤ 1000000000000000000 := by have := hA.size; have := HS9.out.1; omega
          have hA1 := hA.n
          have HA3 := Lib.hid hA.len
          clear hA
          by_cases hlt : k < R.length
          · obtain ⟨b1, off1, cap1, hv, _, _, hb1, c0⟩ := (HRX.out.below hbl.out).str k hlt
            obtain ⟨rfl, rfl⟩ : q1 = some ⟨b1, off1, none⟩ ∧ c1 = cap1 := by
              injection hv with e1 e2 e3
              exact ⟨e1, e3⟩
            have hkF : k < (framesOf R).length := by rw [HFL.out]; exact hlt
            have hnx := ap_next hkF hrun.out
            have hFk : (framesOf R)[k] = frameB R[k] := List.getElem_map _
            have hsr := HSH.out R[k] (List.getElem_mem hlt)
            have hrs := HRS.out R[k] (List.getElem_mem hlt)
            rw [hFk] at hnx
            obtain ⟨r, hrk⟩ : ∃ r, R[k] = r := ⟨_, rfl⟩
            rw [hrk] at c0 hnx hsr hrs
            have hfk : (frameB r).size ≤ 131081 := by rw [frameB_size]; omega
            have hfr := fun W => frame3_any r W hrs
            rw [frV_short hsr] at hfr
            obtain ⟨f, hff⟩ : ∃ f, frameB r = f := ⟨_, rfl⟩
            rw [hff] at hnx hfk hfr
            have HFR := Lib.hid hfr
            have HNX := Lib.hid hnx
            clear hv hff hnx hkF hFk hrk hfr hsr hrs
            have wsum : IntKind.i64.wrap ((a.size : Int) + (f.size : Int)) = (a.size : Int) + (f.size : Int) := IntWalk.i64_in _ (by omega)
            by_cases hfull : 0 < a.size ∧ 65536 < a.size + f.size
            · obtain ⟨hu1, hu2⟩ := hfull
              have t2 : decide ((65536 : Int) < (a.size : Int) + (f.size : Int)) = true := decide_eq_true (by omega)
              by_cases h9 : 999999 ≤ a.n
              · have t3 : decide ((999999 : Int) ≤ (a.n : Int)) = true := decide_eq_true (by omega)
                have HU := Lib.hid (And.intro hu1 (And.intro hu2 h9))
                clear hu2 h9
                go_wp2_with (first
                  | (go_at_call 45; (with_reducible refine (HFR.out _).mono ?_); rintro e w9 ⟨rfl, hb9⟩; have HB9 := Lib.hid hb9; clear hb9)
                  | fail)
                go_ret2
                have hst : apRun p n s (framesOf R) = none := by
                  have h1 := HNX.out
                  unfold apOne at h1
                  rw [if_pos ⟨hu1, HU.out.2.1⟩, if_pos HU.out.2.2] at h1
                  exact ap_stop h1
                exact ⟨n, s, [], 4, _, HE.out, Or.inr (Or.inr ⟨HSH.out, hst, rfl, rfl⟩), rfl, reads_nil _ _, below_then HB03.out (below_then hbl.out HB9.out)⟩
              · have t3 : decide ((999999 : Int) ≤ (a.n : Int)) = false := decide_eq_false (by omega)
                have t4 : ¬ 999999 ≤ a.n := h9
                obtain ⟨m, hm⟩ : ∃ m, m = a.n + 1 := ⟨_, rfl⟩
                have hmI : (a.n : Int) + 1 = (m : Int) := by omega
                have HM := Lib.hid hm
                have HU := Lib.hid hu2
                clear hm hu2 h9
                go_wp2_with (first
                  | (go_at_call 45; (with_reducible refine (HFR.out _).mono ?_); rintro e w9 ⟨rfl, hb9⟩; have HB9 := Lib.hid hb9; clear hb9)
                  | (go_at_call 23; (with_reducible refine (name3_any p a.n _ (by omega) (by omega)).mono ?_); rintro e w4 ⟨rfl, hb4⟩; have HB4 := Lib.hid hb4; clear hb4)
                  | (go_at_call 23; (with_reducible refine (name3_any p m _ (by omega) (by omega)).mono ?_); rintro e w7 ⟨rfl, hb7⟩; have HB7 := Lib.hid hb7; clear hb7)
                  | (at_builtin; refine wpList_append_own _ rfl _ _ 28 rfl wc.heap.size 55 i0 (.agg #[.int .i64 0, .string .empty, .int .i64 0, .string .empty]) 4 48 Try.underlying28 hi hz0 hz1 hz2 rfl (by decide) _ a.plan.length (dopCells a.plan) rfl ?b1 ⟨w4.heap.size, 0, none⟩ 1 1 [.int .i64 2, .string (nameOf p a.n), .int .i64 0, .string ⟨#[]⟩] rfl rfl ?b2 ?b3 ?b4 ?b5 ?b6 ?_; rotate_right 1; intro v6 w6 hown hg hnil; have HOWN_b := Lib.hid hown; have HG_b := Lib.hid hg; have HNIL_b := Lib.hid hnil; clear hown hg hnil)
                  | (at_builtin; refine wpList_append_own _ rfl _ _ 28 rfl wc.heap.size 55 i0 (.agg #[.int .i64 0, .string .empty, .int .i64 0, .string .empty]) 4 48 Try.underlying28 hi hz0 hz1 hz2 rfl (by decide) _ (a.plan.length + 1) (dopCells a.plan ++ [.int .i64 2, .string (nameOf p a.n), .int .i64 0, .string ⟨#[]⟩]) rfl ?d1 ⟨w7.heap.size, 0, none⟩ 1 1 [.int .i64 1, .string (nameOf p m), .int .i64 0, .string f] rfl rfl ?d2 ?d3 ?d4 ?d5 ?d6 ?_; rotate_right 1; intro v8 w8 hown hg hnil; have HOWN_d := Lib.hid hown; have HG_d := Lib.hid hg; have HNIL_d := Lib.hid hnil; clear hown hg hnil)
                  | fail)
                case b1 => exact owns_below (owns_below (owns_below hown.out.1 HB9.out) HB4.out) (below1 _ _)
                case b2 =>
                  intro j u hu
                  rw [add_lit, Nat.zero_add, cell_of_row _ _ _ _ 55 _ (heap_alloc_new w4 _)]
                  simpa using hu
                case b3 =>
                  intro u hu
                  simp at hu
                  rcases hu with rfl | rfl | rfl | rfl <;> rfl
                case b4 => have := HA3.out; unfold maxLen; omega
                case b5 => have := HA3.out; omega
                case b6 => have := hbl.out.size; have := HB9.out.size; have := HB4.out.size; simp; omega
                case d1 => exact owns_below (owns_below HOWN_b.out HB7.out) (below1 _ _)
                case d2 =>
                  intro j u hu
                  rw [add_lit, Nat.zero_add, cell_of_row _ _ _ _ 55 _ (heap_alloc_new w7 _)]
                  simpa using hu
                case d3 =>
                  intro u hu
                  simp at hu
                  rcases hu with rfl | rfl | rfl | rfl <;> rfl
                case d4 => have := HA3.out; unfold maxLen; omega
                case d5 => have := HA3.out; omega
                case d6 => have := hbl.out.size; have := HB9.out.size; have := HB4.out.size; have h8 := HG_b.out.size; simp at h8; have := HB7.out.size; simp; omega
                have o1 := owns_below (owns_below (owns_below hown.out.1 HB9.out) HB4.out) (below1 w4 (.cells #[.int .i64 2, .string (nameOf p a.n), .int .i64 0, .string ⟨#[]⟩] 55))
                have bx1 := nb_alloc (below_then (below_then hbl.out HB9.out) HB4.out) (.cells #[.int .i64 2, .string (nameOf p a.n), .int .i64 0, .string ⟨#[]⟩] 55)
                have bx2 := below_grown bx1 o1 HG_b.out
                have o2 := owns_below (owns_below HOWN_b.out HB7.out) (below1 w7 (.cells #[.int .i64 1, .string (nameOf p m), .int .i64 0, .string f] 55))
                have bx3 := nb_alloc (below_then bx2 HB7.out) (.cells #[.int .i64 1, .string (nameOf p m), .int .i64 0, .string f] 55)
                have bx4 := below_grown bx3 o2 HG_d.out
                refine ⟨⟨k + 1, ⟨a.plan ++ [syncOp (nameOf p a.n)] ++ [putOp (nameOf p m) 0 f], m, f.size⟩, by omega, by go_num, rfl, rfl, ?_, ?_, Lib.hid bx4⟩, by simp [intOf]; omega⟩
                · refine Lib.hid ?_
                  rw [HNX.out]
                  unfold apOne
                  rw [if_pos ⟨hu1, HU.out⟩, if_neg t4, HM.out]
                · refine Lib.hid (own_more ?_ (fun h => absurd (HNIL_d.out.1 h) (by simp)))
                  rw [dop_snoc, List.length_append]
                  exact HOWN_d.out
            · have HNF := Lib.hid hfull
              by_cases hz : 0 < a.size
              · have t2 : decide ((65536 : Int) < (a.size : Int) + (f.size : Int)) = false := decide_eq_false (fun h => hfull ⟨hz, by omega⟩)
                clear hfull
                go_wp2_with (first
                  | (go_at_call 45; (with_reducible refine (HFR.out _).mono ?_); rintro e w9 ⟨rfl, hb9⟩; have HB9 := Lib.hid hb9; clear hb9)
                  | (go_at_call 23; (with_reducible refine (name3_any p a.n _ (by omega) (by omega)).mono ?_); rintro e w4 ⟨rfl, hb4⟩; have HB4 := Lib.hid hb4; clear hb4)
                  | (at_builtin; refine wpList_append_own _ rfl _ _ 28 rfl wc.heap.size 55 i0 (.agg #[.int .i64 0, .string .empty, .int .i64 0, .string .empty]) 4 48 Try.underlying28 hi hz0 hz1 hz2 rfl (by decide) _ a.plan.length (dopCells a.plan) rfl ?e1 ⟨w4.heap.size, 0, none⟩ 1 1 [.int .i64 1, .string (nameOf p a.n), .int .i64 (a.size : Int), .string f] rfl rfl ?e2 ?e3 ?e4 ?e5 ?e6 ?_; rotate_right 1; intro v6 w6 hown hg hnil; have HOWN_e := Lib.hid hown; have HG_e := Lib.hid hg; have HNIL_e := Lib.hid hnil; clear hown hg hnil)
                  | fail)
                case e1 => exact owns_below (owns_below (owns_below hown.out.1 HB9.out) HB4.out) (below1 _ _)
                case e2 =>
                  intro j u hu
                  rw [add_lit, Nat.zero_add, cell_of_row _ _ _ _ 55 _ (heap_alloc_new w4 _)]
                  simpa using hu
                case e3 =>
                  intro u hu
                  simp at hu
                  rcases hu with rfl | rfl | rfl | rfl <;> rfl
                case e4 => have := HA3.out; unfold maxLen; omega
                case e5 => have := HA3.out; omega
                case e6 => have := hbl.out.size; have := HB9.out.size; have := HB4.out.size; simp; omega
                have o1 := owns_below (owns_below (owns_below hown.out.1 HB9.out) HB4.out) (below1 w4 (.cells #[.int .i64 1, .string (nameOf p a.n), .int .i64 (a.size : Int), .string f] 55))
                have bx1 := nb_alloc (below_then (below_then hbl.out HB9.out) HB4.out) (.cells #[.int .i64 1, .string (nameOf p a.n), .int .i64 (a.size : Int), .string f] 55)
                have bx2 := below_grown bx1 o1 HG_e.out
                refine ⟨⟨k + 1, ⟨a.plan ++ [putOp (nameOf p a.n) a.size f], a.n, a.size + f.size⟩, by omega, by go_num, rfl, by simp, ?_, ?_, Lib.hid bx2⟩, by simp [intOf]; omega⟩
                · refine Lib.hid ?_
                  rw [HNX.out]
                  unfold apOne
                  rw [if_neg HNF.out]
                · exact Lib.hid (own_more HOWN_e.out (fun h => absurd (HNIL_e.out.1 h) (by simp)))
              · skip
                clear hfull
                go_wp2_with (first
                  | (go_at_call 45; (with_reducible refine (HFR.out _).mono ?_); rintro e w9 ⟨rfl, hb9⟩; have HB9 := Lib.hid hb9; clear hb9)
                  | (go_at_call 23; (with_reducible refine (name3_any p a.n _ (by omega) (by omega)).mono ?_); rintro e w4 ⟨rfl, hb4⟩; have HB4 := Lib.hid hb4; clear hb4)
                  | (at_builtin; refine wpList_append_own _ rfl _ _ 28 rfl wc.heap.size 55 i0 (.agg #[.int .i64 0, .string .empty, .int .i64 0, .string .empty]) 4 48 Try.underlying28 hi hz0 hz1 hz2 rfl (by decide) _ a.plan.length (dopCells a.plan) rfl ?g1 ⟨w4.heap.size, 0, none⟩ 1 1 [.int .i64 1, .string (nameOf p a.n), .int .i64 (a.size : Int), .string f] rfl rfl ?g2 ?g3 ?g4 ?g5 ?g6 ?_; rotate_right 1; intro v6 w6 hown hg hnil; have HOWN_g := Lib.hid hown; have HG_g := Lib.hid hg; have HNIL_g := Lib.hid hnil; clear hown hg hnil)
                  | fail)
                case g1 => exact owns_below (owns_below (owns_below hown.out.1 HB9.out) HB4.out) (below1 _ _)
                case g2 =>
                  intro j u hu
                  rw [add_lit, Nat.zero_add, cell_of_row _ _ _ _ 55 _ (heap_alloc_new w4 _)]
                  simpa using hu
                case g3 =>
                  intro u hu
                  simp at hu
                  rcases hu with rfl | rfl | rfl | rfl <;> rfl
                case g4 => have := HA3.out; unfold maxLen; omega
                case g5 => have := HA3.out; omega
                case g6 => have := hbl.out.size; have := HB9.out.size; have := HB4.out.size; simp; omega
                have o1 := owns_below (owns_below (owns_below hown.out.1 HB9.out) HB4.out) (below1 w4 (.cells #[.int .i64 1, .string (nameOf p a.n), .int .i64 (a.size : Int), .string f] 55))
                have bx1 := nb_alloc (below_then (below_then hbl.out HB9.out) HB4.out) (.cells #[.int .i64 1, .string (nameOf p a.n), .int .i64 (a.size : Int), .string f] 55)
                have bx2 := below_grown bx1 o1 HG_g.out
                refine ⟨⟨k + 1, ⟨a.plan ++ [putOp (nameOf p a.n) a.size f], a.n, a.size + f.size⟩, by omega, by go_num, rfl, by simp, ?_, ?_, Lib.hid bx2⟩, by simp [intOf]; omega⟩
                · refine Lib.hid ?_
                  rw [HNX.out]
                  unfold apOne
                  rw [if_neg HNF.out]
                · exact Lib.hid (own_more HOWN_g.out (fun h => absurd (HNIL_g.out.1 h) (by simp)))
          · obtain rfl : k = R.length := by omega
            go_wp2_with fail
            go_ret2
            have h1 := hrun.out
            rw [← HFL.out, List.take_length] at h1
            exact ⟨n, s, a.plan, 0, _, HE.out, Or.inr (Or.inl ⟨HSH.out, a, h1, rfl, rfl⟩), rfl, hown.out.reads, below_then HB03.out hbl.out⟩
end Go.Proofs.Ytkecjopojnllnaa
namespace Go.Proofs.Ytkecjopojnllnaa
open Go.RowKit Go.Deep Go.Joins
def SyIs (p : ByteArray) (l : List Rw) (P : List DOp) : Prop :=
  ((∀ m, ¬ hasN p l m) ∧ P = []) ∨ (∃ n, hasN p l n ∧ (∀ m, hasN p l m → m ≤ n) ∧ P = [syncOp (nameOf p n)])
theorem SyIs.one {p : ByteArray} {l : List Rw} {P P' : List DOp} (h : SyIs p l P) (h' : SyIs p l P') : P = P' := by
  rcases h with ⟨h1, rfl⟩ | ⟨n, h1, h2, rfl⟩
  · rcases h' with ⟨_, rfl⟩ | ⟨n', h3, _⟩
    · rfl
    · exact absurd h3 (h1 _)
  · rcases h' with ⟨h3, _⟩ | ⟨n', h3, h4, rfl⟩
    · exact absurd h1 (h3 _)
    · have a := h2 _ h3
      have b := h4 _ h1
      obtain rfl : n = n' := by omega
      rfl
def SyPost (p : ByteArray) (l : List Rw) (w : World) (e : Ending) (w' : World) : Prop :=
  ∃ (P : List DOp) (v' : Value), SyIs p l P ∧ e = .returned (.tuple #[v', .int .i64 0]) ∧ Reads w' v' 4 P.length (dopCells P) ∧ Below w.heap.size w w'
theorem reads_op (W : World) (o : DOp) : Reads (W.alloc (.cells #[.int .i64 o.kind, .string o.name, .int .i64 o.pos, .string o.bytes] 55)) (.slice (some ⟨W.heap.size, 0, none⟩) 1 1) 4 1 (dopCells [o]) := by
  refine ⟨rfl, .inr ⟨_, 1, rfl, Nat.le_refl _, by unfold maxLen; omega, fun j u hu => ?_⟩⟩
  rw [add_lit, Nat.zero_add, cell_of_row _ _ _ _ 55 _ (heap_alloc_new W _)]
  simpa [dopCells] using hu
set_option maxHeartbeats 1000000 in
theorem sync_no (p : ByteArray) (dv : Value) (w : World) (hp : prefB p = false) :
    Calls Try.prog 18 #[.agg #[dv], .string p] w fun e w' => e = .returned (.tuple #[.slice none 0 0, .int .i64 1]) ∧ Below w.heap.size w w' := by
  go_enter Try.func18, Try.ntmps18
  go_wp2_with (go_at_call 30; (with_reducible refine (mayBe_any p _).mono ?_); rintro e w1 ⟨rfl, rfl⟩; rw [hp])
  go_ret2
  exact ⟨rfl, below1 w _⟩
set_option maxHeartbeats 1000000 in
theorem sync3_no (p : ByteArray) (dv : Value) (w : World) (hp : prefB p = false) :
    Calls Try.prog 19 #[.agg #[dv], .string p] w fun e w' => e = .returned (.tuple #[.slice none 0 0, .int .i64 1]) ∧ Below w.heap.size w w' := by
  go_enter Try.func19, Try.ntmps19
  go_wp2_with (go_at_call 36; (with_reducible refine (prefix_any p _).mono ?_); rintro e w1 ⟨rfl, rfl⟩; rw [hp])
  go_ret2
  exact ⟨rfl, below1 w _⟩
set_option maxRecDepth 100000 in
set_option maxHeartbeats 2000000 in
theorem sync_yes (l : List Rw) (q : Option Addr) (cap : Nat) (p : ByteArray) (w : World) (hp : prefB p = true) (hr : Reads w (.slice q l.length cap) 3 l.length (rowCells l)) (ho : Opens w l) (hm : l.length ≤ 1099511627776) :
    Calls Try.prog 18 #[.agg #[.slice q l.length cap], .string p] w (SyPost p l w) := by
  have hp8 := pref_size hp
  obtain ⟨L, hL, hLm, hLl⟩ := nums_exist p l
  have HL := Lib.hid hL
  have HLM := Lib.hid hLm
  have HSG := Lib.hid (fun (W : World) (hb : Below w.heap.size w W) => segments_any l _ p W (hr.below hb) (fun r hr => (ho r hr).below hb) (by omega) hm)
  clear hL hLm hr ho
  go_enter Try.func18, Try.ntmps18
  go_upto_region 4 with (first
    | (go_at_call 30; (with_reducible refine (mayBe_any p _).mono ?_); rintro e w1 ⟨rfl, rfl⟩; rw [hp])
    | (go_at_call 31; (with_reducible refine (HSG.out _ (below1 w _)).mono ?_); rintro e w2 ⟨v2, D, Z, rfl, hrow, hD, hRi, hKe, hb2⟩; obtain ⟨q2, c2, rfl⟩ := owns_shape hrow; have HS := Lib.hid (segs_same hD hRi hKe HL.out HLM.out); have HROW := Lib.hid hrow; have HB2 := Lib.hid (below_then (below1 w _) hb2); clear hrow hD hRi hKe hb2)
    | fail)
  by_cases hz : D = []
  · subst hz
    go_wp2_with fail
    go_ret2
    refine ⟨[], _, Or.inl ⟨fun m hm' => ?_, rfl⟩, rfl, reads_nil _ _, HB2.out⟩
    have h1 := (HLM.out m).2 hm'
    rw [List.eq_nil_of_length_eq_zero (show L.length = 0 from HS.out.1.symm)] at h1
    cases h1
  · have hDl := HS.out.1
    have hpos := List.length_pos_iff.2 hz
    obtain ⟨k, hk⟩ : ∃ k, D.length = k + 1 := ⟨D.length - 1, by omega⟩
    have hkL : k < L.length := by omega
    obtain ⟨r, hf, hd⟩ := HS.out.2 k hkL
    obtain ⟨j, hjl, _, hlj, hrn, hn9⟩ := find_name hf
    have hdk : D[k].name = nameOf p L[k] := by
      have h1 : D[k] = sgOf L[k] r := by
        rw [List.getElem?_eq_getElem (by omega)] at hd
        exact Option.some.inj hd
      rw [h1]
      exact hrn
    obtain ⟨b, off, cap2, hv, _, hcm, hb, x0, x1, x2, x3⟩ := (reads_of_owns HROW.out).seg k (by omega)
    obtain ⟨rfl, rfl⟩ : q2 = some ⟨b, off, none⟩ ∧ c2 = cap2 := by
      injection hv with e1 e2 e3
      exact ⟨e1, e3⟩
    rw [hdk] at x1
    have HE : Hid (SyIs p l [syncOp (nameOf p L[k])]) := Lib.hid (Or.inr ⟨L[k], find_has hf, fun m hm' => strict_last HL.out (show L.length = k + 1 by omega) m ((HLM.out m).2 hm'), rfl⟩)
    obtain ⟨n, hn⟩ : ∃ n, L[k] = n := ⟨_, rfl⟩
    rw [hn] at x1 HE
    have e0 : (D.length : Int) - 1 = (k : Int) := by omega
    have hkD : k < D.length := by omega
    have hD6 : D.length ≤ 1000000 := by omega
    have hne : ((D.length : Int) == 0) = false := by rw [beq_eq_false_iff_ne]; omega
    clear x0 x2 x3 hv hcm hf hd hlj hrn hdk hn hDl hk hz
    go_wp2_with (first
      | (go_at_call 44; (with_reducible refine (syncOf_any _ _).mono ?_); rintro e w3 ⟨rfl, hb3⟩; have HB3 := Lib.hid hb3; clear hb3; unfold syncV)
      | fail)
    go_ret2
    exact ⟨[syncOp (nameOf p n)], _, HE.out, rfl, reads_op w3 (syncOp (nameOf p n)), nb_alloc (below_then HB2.out HB3.out) _⟩
set_option maxRecDepth 100000 in
set_option maxHeartbeats 2000000 in
theorem sync3_yes (l : List Rw) (q : Option Addr) (cap : Nat) (p : ByteArray) (w : World) (hp : prefB p = true) (hr : Reads w (.slice q l.length cap) 3 l.length (rowCells l)) (hm : l.length ≤ 1099511627776) :
    Calls Try.prog 19 #[.agg #[.slice q l.length cap], .string p] w (SyPost p l w) := by
  have hp8 := pref_size hp
  have HSG := Lib.hid (fun (W : World) (hb : Below w.heap.size w W) => segments2_any l _ p W (hr.below hb) (by omega) hm)
  clear hr
  go_enter Try.func19, Try.ntmps19
  go_upto_region 4 with (first
    | (go_at_call 36; (with_reducible refine (prefix_any p _).mono ?_); rintro e w1 ⟨rfl, rfl⟩; rw [hp])
    | (go_at_call 37; (with_reducible refine (HSG.out _ (below1 w _)).mono ?_); rintro e w2 ⟨v2, L, rfl, hOL, hL, hLm, hb2⟩; obtain ⟨q2, c2, rfl⟩ := owns_shape hOL.1; have HOL := Lib.hid hOL; have HL := Lib.hid hL; have HLM := Lib.hid hLm; have HB2 := Lib.hid (below_then (below1 w _) hb2); clear hOL hL hLm hb2)
    | fail)
  by_cases hLz : L = []
  · subst hLz
    go_wp2_with fail
    go_ret2
    refine ⟨[], _, Or.inl ⟨fun m hm' => ?_, rfl⟩, rfl, reads_nil _ _, HB2.out⟩
    have h1 := (HLM.out m).2 hm'
    cases h1
  · obtain ⟨g, cap2, hv2, hcc, hcm, hg, _, hcL⟩ := HOL.out.is hLz
    obtain ⟨rfl, rfl⟩ : q2 = some ⟨g, 0, none⟩ ∧ c2 = cap2 := by
      injection hv2 with e1 e2 e3
      exact ⟨e1, e3⟩
    have hpos := List.length_pos_iff.2 hLz
    obtain ⟨k, hk⟩ : ∃ k, L.length = k + 1 := ⟨L.length - 1, by omega⟩
    have e0 : (L.length : Int) - 1 = (k : Int) := by omega
    have hkl : k < L.length := by omega
    have hkb : k ≤ 9223372036854775806 := by
      unfold maxLen at hcm
      omega
    have ck := hcL k hkl
    have hn9 := hasN_le ((HLM.out L[k]).1 (List.getElem_mem _))
    have HE : Hid (SyIs p l [syncOp (nameOf p L[k])]) := Lib.hid (Or.inr ⟨L[k], (HLM.out L[k]).1 (List.getElem_mem _), fun m hm' => strict_last HL.out hk m ((HLM.out m).2 hm'), rfl⟩)
    obtain ⟨n, hn⟩ : ∃ n, L[k] = n := ⟨_, rfl⟩
    rw [hn] at ck HE hn9
    have hne : ((L.length : Int) == 0) = false := by rw [beq_eq_false_iff_ne]; omega
    clear hcm hcc hcL hv2 hn hk hLz
    go_wp2_with (first
      | (go_at_call 23; (with_reducible refine (name3_any p n _ (by omega) (by omega)).mono ?_); rintro e w3 ⟨rfl, hb3⟩; have HB3 := Lib.hid hb3; clear hb3)
      | fail)
    go_ret2
    exact ⟨[syncOp (nameOf p n)], _, HE.out, rfl, reads_op w3 (syncOp (nameOf p n)), nb_alloc (below_then HB2.out HB3.out) _⟩
end Go.Proofs.Ytkecjopojnllnaa
