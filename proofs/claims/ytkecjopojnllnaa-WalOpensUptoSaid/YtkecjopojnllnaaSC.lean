/- What an append plans, on the plain side. -/
import Derived.Test.YtkecjopojnllnaaQJ
import Derived.Test.YtkecjopojnllnaaPV
import Derived.Test.YtkecjopojnllnaaRC
import Derived.Test.YtkecjopojnllnaaRD
import Derived.OwnWalk
import Derived.Test.YtkecjopojnllnaaRG
namespace Go.Proofs.Ytkecjopojnllnaa
open Go.RowKit Go.Deep Go.Joins
def syncOp (x : ByteArray) : DOp := ⟨2, x, 0, ⟨#[]⟩⟩
def dropOp (x : ByteArray) : DOp := ⟨4, x, 0, ⟨#[]⟩⟩
def putOp (x : ByteArray) (n : Nat) (f : ByteArray) : DOp := ⟨1, x, (n : Int), f⟩
/-- The plan so far, the segment's number, and how many bytes it has. -/
structure Ap where
  plan : List DOp
  n : Nat
  size : Nat
def apOne (p : ByteArray) (a : Ap) (f : ByteArray) : Option Ap :=
  if 0 < a.size ∧ 65536 < a.size + f.size then
    (if 999999 ≤ a.n then none else some ⟨a.plan ++ [syncOp (nameOf p a.n)] ++ [putOp (nameOf p (a.n + 1)) 0 f], a.n + 1, f.size⟩)
  else some ⟨a.plan ++ [putOp (nameOf p a.n) a.size f], a.n, a.size + f.size⟩
def apStep (p : ByteArray) (o : Option Ap) (f : ByteArray) : Option Ap := o.bind fun a => apOne p a f
def apRun (p : ByteArray) (n s : Nat) (fs : List ByteArray) : Option Ap := fs.foldl (apStep p) (some ⟨[], n, s⟩)
theorem ap_none (p : ByteArray) (fs : List ByteArray) : fs.foldl (apStep p) none = none := by
  induction fs with
  | nil => rfl
  | cons f fs ih => exact ih
theorem ap_snoc (p : ByteArray) (n s : Nat) (fs : List ByteArray) (f : ByteArray) : apRun p n s (fs ++ [f]) = apStep p (apRun p n s fs) f := by
  unfold apRun
  rw [List.foldl_append]
  rfl
theorem ap_next {p : ByteArray} {n s : Nat} {fs : List ByteArray} {k : Nat} (hk : k < fs.length) {a : Ap} (h : apRun p n s (fs.take k) = some a) : apRun p n s (fs.take (k + 1)) = apOne p a fs[k] := by
  rw [List.take_succ_eq_append_getElem hk, ap_snoc, h]
  rfl
theorem ap_stop {p : ByteArray} {n s : Nat} {fs : List ByteArray} {k : Nat} (h : apRun p n s (fs.take k) = none) : apRun p n s fs = none := by
  unfold apRun at *
  rw [← List.take_append_drop k fs, List.foldl_append, h, ap_none]
/-- What holds of it on the way. -/
structure ApOk (a : Ap) (s k : Nat) : Prop where
  n : a.n ≤ 999999
  size : a.size ≤ s + k * 131081
  len : a.plan.length ≤ 2 * k
theorem ap_ok {p : ByteArray} {n s : Nat} {fs : List ByteArray} (hn : n ≤ 999999) (hf : ∀ f ∈ fs, f.size ≤ 131081) (k : Nat) (hk : k ≤ fs.length) (a : Ap) (h : apRun p n s (fs.take k) = some a) : ApOk a s k := by
  induction k generalizing a with
  | zero =>
    have h' : some (⟨[], n, s⟩ : Ap) = some a := h
    obtain rfl := Option.some.inj h'
    exact ⟨hn, by simp, by simp⟩
  | succ k ih =>
    cases hb : apRun p n s (fs.take k) with
    | none =>
      rw [List.take_succ_eq_append_getElem (by omega), ap_snoc, hb] at h
      cases h
    | some b =>
      rw [ap_next (by omega) hb] at h
      obtain ⟨h1, h2, h3⟩ := ih (by omega) b hb
      have hl := hf fs[k] (List.getElem_mem _)
      unfold apOne at h
      split at h
      · split at h
        · cases h
        · obtain rfl := Option.some.inj h
          refine ⟨by dsimp only; omega, by dsimp only; omega, by simp; omega⟩
      · obtain rfl := Option.some.inj h
        refine ⟨by dsimp only; omega, by dsimp only; omega, by simp; omega⟩
/-- The frames of records, if none is too long. -/
def shortR (R : List ByteArray) : Prop := ∀ r ∈ R, r.size ≤ 131072
def framesOf (R : List ByteArray) : List ByteArray := R.map frameB
theorem frames_size {R : List ByteArray} (h : shortR R) : ∀ f ∈ framesOf R, f.size ≤ 131081 := by
  intro f hf
  obtain ⟨r, hr, rfl⟩ := List.mem_map.1 hf
  have := h r hr
  rw [frameB_size]
  omega
end Go.Proofs.Ytkecjopojnllnaa
namespace Go.Proofs.Ytkecjopojnllnaa
open Go.RowKit Go.Deep Go.Joins
def FrPost (R : List ByteArray) (w : World) (e : Ending) (w' : World) : Prop :=
  (shortR R ∧ ∃ v', e = .returned (.tuple #[v', .int .i64 0]) ∧ w'.ownsRow w.heap.size 9 1 v' R.length (strs (framesOf R)) ∧ Below w.heap.size w w') ∨
  (¬ shortR R ∧ e = .returned (.tuple #[.slice none 0 0, .int .i64 2]) ∧ Below w.heap.size w w')
theorem frV_short {s : ByteArray} (h : s.size ≤ 131072) : frameV s = .tuple #[.string (frameB s), .int .i64 0] := if_pos h
theorem frV_long {s : ByteArray} (h : ¬ s.size ≤ 131072) : frameV s = .tuple #[.string ⟨#[]⟩, .int .i64 2] := if_neg h
theorem strs_snoc (P : List ByteArray) (k : Nat) (h : k < P.length) : strs (framesOf (P.take (k + 1))) = strs (framesOf (P.take k)) ++ [.string (frameB P[k])] := by
  unfold strs framesOf
  rw [List.take_succ_eq_append_getElem h, List.map_append, List.map_append]
  rfl
set_option maxRecDepth 100000 in
set_option maxHeartbeats 2000000 in
theorem frames_any (R : List ByteArray) (v : Value) (w : World) (hr : Reads w v 1 R.length (strs R)) (hm : R.length ≤ 1099511627776) (hs : ∀ r ∈ R, r.size ≤ 1099511627776) :
    Calls Try.prog 42 #[v] w (FrPost R w) := by
  obtain ⟨q, cap, rfl⟩ := hr.is
  obtain ⟨i0, hi, hz0, hz1, hz2⟩ := info_parts (show (Try.prog.info? 9).map (fun i => (i.zero, i.size, i.bytes)) = some (some (.string .empty), 1, 16) by kernel_rfl)
  have HS := Lib.hid hs
  clear hs
  go_enter Try.func42, Try.ntmps42
  go_wp2_with (with_reducible refine wpList_make_own _ rfl _ _ 27 rfl w.heap.size 9 i0 (.string .empty) 1 Try.underlying27 hi hz0 hz1 .i64 .i64 _ R.length rfl rfl rfl ?g1 ?g2 ?g3 ?_; rotate_right 1; intro w0 hown0 hg0; have HOWN0 := Lib.hid hown0; have HG0 := Lib.hid hg0; clear hown0 hg0)
  case g1 => rw [hz2]; omega
  case g2 => unfold maxLen; omega
  case g3 => exact Nat.le_refl _
  go_wp2_with fail
  go_loopw [14, 4] (fun i u wr => ∃ k : Nat, k ≤ R.length ∧ i = .int .i64 (k : Int) ∧ Hid (∀ r ∈ R.take k, r.size ≤ 131072) ∧ Hid (wr.ownsRow w.heap.size 9 1 u k (strs (framesOf (R.take k)))) ∧ Hid (¬ u = .slice none 0 0) ∧ Hid (Below w.heap.size w wr)) (fun i _ _ => R.length - (intOf i).toNat)
  case atStart => exact ⟨0, Nat.zero_le _, rfl, Lib.hid (fun r hr => by cases hr), HOWN0, Lib.hid (by simp), Lib.hid ((Below.refl _ w).grown HG0.out (Nat.le_refl _) (fun j hj => by cases hj))⟩
  case round =>
    obtain ⟨k, hk, rfl, hsh, hown, hnn, hbl⟩ := hrel
    obtain ⟨wo, hwo⟩ : ∃ wo, wo = wr := ⟨_, rfl⟩
    subst hwo
    by_cases hlt : k < R.length
    · obtain ⟨b1, off1, cap1, hv, _, _, hb1, c0⟩ := (hr.below hbl.out).str k hlt
      obtain ⟨rfl, rfl⟩ : q = some ⟨b1, off1, none⟩ ∧ cap = cap1 := by simpa using hv
      have hrs := HS.out R[k] (List.getElem_mem _)
      have HSN := Lib.hid (strs_snoc R k hlt)
      have HTK := Lib.hid (List.take_succ_eq_append_getElem hlt)
      have HMEM := Lib.hid (List.getElem_mem hlt)
      obtain ⟨r, hrk⟩ : ∃ r, R[k] = r := ⟨_, rfl⟩
      rw [hrk] at c0 hrs HSN HTK HMEM
      have hfr := fun W => frame_any r W hrs
      have HFR := Lib.hid hfr
      clear hv hfr hrk
      by_cases hshort : r.size ≤ 131072
      · rw [frV_short hshort] at HFR
        have HSZ := Lib.hid hshort
        clear hshort
        go_wp2_with (first
          | (go_at_call 46; (with_reducible refine (HFR.out _).mono ?_); rintro e w1 ⟨rfl, hb1⟩; have HB1 := Lib.hid hb1; clear hb1)
          | (at_builtin; refine wpList_append_own _ rfl _ _ 27 rfl w.heap.size 9 i0 (.string .empty) 1 16 Try.underlying27 hi hz0 hz1 hz2 rfl (by decide) _ k (strs (framesOf (R.take k))) rfl ?a1 ⟨w1.heap.size, 0, none⟩ 1 1 [.string (frameB r)] rfl rfl ?a2 ?a3 ?a4 ?a5 ?a6 ?_; rotate_right 1; intro v6 w6 hown6 hg6 hnil6; have HOWN6 := Lib.hid hown6; have HG6 := Lib.hid hg6; have HNIL6 := Lib.hid hnil6; clear hown6 hg6 hnil6)
          | fail)
        case a1 => exact owns_below (owns_below hown.out HB1.out) (below1 _ _)
        case a2 =>
          intro j u hu
          rw [add_lit, Nat.zero_add, cell_of_row _ _ _ _ 9 _ (heap_alloc_new w1 _)]
          simpa using hu
        case a3 =>
          intro u hu
          simp at hu
          rcases hu with rfl
          rfl
        case a4 => unfold maxLen; omega
        case a5 => omega
        case a6 => have := hbl.out.size; have := HB1.out.size; simp; omega
        go_roundw
        case rel =>
          have hbx := nb_alloc (below_then hbl.out HB1.out) (.cells #[.string (frameB r)] 9)
          refine ⟨k + 1, by omega, by go_num, ?_, ?_, ?_, ?_⟩
          · refine Lib.hid (fun x hx => ?_)
            rw [HTK.out, List.mem_append, List.mem_singleton] at hx
            rcases hx with hx | rfl
            · exact hsh.out x hx
            · exact HSZ.out
          · rw [HSN.out]
            exact HOWN6
          · refine Lib.hid (fun h => ?_)
            exact absurd (HNIL6.out.1 h) (by simp)
          · exact Lib.hid (below_grown hbx (owns_below (owns_below hown.out HB1.out) (below1 _ _)) HG6.out)
        case measure => simp [intOf]; omega
      · rw [frV_long hshort] at HFR
        have HSZ := Lib.hid hshort
        clear hshort
        go_wp2_with (first
          | (go_at_call 46; (with_reducible refine (HFR.out _).mono ?_); rintro e w1 ⟨rfl, hb1⟩; have HB1 := Lib.hid hb1; clear hb1)
          | fail)
        go_ret2
        exact Or.inr ⟨fun h => HSZ.out (h r HMEM.out), rfl, below_then hbl.out HB1.out⟩
    · obtain rfl : k = R.length := by omega
      go_wp2_with fail
      go_ret2
      have h1 := hsh.out
      have h2 := hown.out
      rw [List.take_length] at h1 h2
      exact Or.inl ⟨h1, _, rfl, h2, hbl.out⟩
end Go.Proofs.Ytkecjopojnllnaa
namespace Go.Proofs.Ytkecjopojnllnaa
open Go.RowKit Go.Deep Go.Joins
theorem nums_exist (p : ByteArray) (l : List Rw) : ∃ L, StrictN L ∧ (∀ n, n ∈ L ↔ hasN p l n) ∧ L.length ≤ 1000000 := by
  classical
  refine ⟨(List.range 1000000).filter (fun n => decide (hasN p l n)), ?_, fun n => ?_, Nat.le_trans (List.length_filter_le _ _) (by rw [List.length_range]; exact Nat.le_refl _)⟩
  · exact (List.pairwise_lt_range (n := 1000000)).filter _
  · rw [List.mem_filter, List.mem_range, decide_eq_true_eq]
    exact ⟨fun h => h.2, fun h => ⟨by have := hasN_le h; omega, h⟩⟩
/-- The last segment's number, and how many bytes it has. -/
def EndAt (p : ByteArray) (l : List Rw) (n s : Nat) : Prop :=
  ((∀ m, ¬ hasN p l m) ∧ n = 0 ∧ s = 0) ∨ (∃ r, (∀ m, hasN p l m → m ≤ n) ∧ l.find? (fun r => numB p r.name == some n) = some r ∧ s = (layB r.safe r.opens).size)
theorem find_has {p : ByteArray} {l : List Rw} {n : Nat} {r : Rw} (h : l.find? (fun r => numB p r.name == some n) = some r) : hasN p l n :=
  ⟨r, List.mem_of_find?_eq_some h, by simpa using List.find?_some h⟩
theorem EndAt.one {p : ByteArray} {l : List Rw} {n s n' s' : Nat} (h : EndAt p l n s) (h' : EndAt p l n' s') : n = n' ∧ s = s' := by
  rcases h with ⟨h1, rfl, rfl⟩ | ⟨r, h1, h2, rfl⟩
  · rcases h' with ⟨_, rfl, rfl⟩ | ⟨r', _, h3, _⟩
    · exact ⟨rfl, rfl⟩
    · exact absurd (find_has h3) (h1 _)
  · rcases h' with ⟨h3, _, _⟩ | ⟨r', h3, h4, rfl⟩
    · exact absurd (find_has h2) (h3 _)
    · have a := h1 _ (find_has h4)
      have b := h3 _ (find_has h2)
      obtain rfl : n = n' := by omega
      rw [h2] at h4
      obtain rfl := Option.some.inj h4
      exact ⟨rfl, rfl⟩
theorem strict_last {L : List Nat} (h : StrictN L) {k : Nat} (hk : L.length = k + 1) (m : Nat) (hm : m ∈ L) : m ≤ L[k] := by
  obtain ⟨j, hj, rfl⟩ := List.getElem_of_mem hm
  rcases Nat.lt_or_ge j k with h1 | h1
  · exact Nat.le_of_lt (List.pairwise_iff_getElem.1 h j k hj (by omega) h1)
  · obtain rfl : j = k := by omega
    exact Nat.le_refl _
theorem sgOf_ov {w : World} {n : Nat} {r : Rw} (h : Reads w r.ov 2 r.opens.length (wrCells r.opens)) : (sgOf n r).ov = r.ov := by
  obtain ⟨q, cap, e⟩ := h.is
  show Value.slice (slP r.ov) (slL r.ov) (slC r.ov) = r.ov
  rw [e]
  rfl
theorem end_segs (p : ByteArray) (l : List Rw) (L : List Nat) (D : List Sg) (v : Value) (B : Nat) (w : World) (hrow : w.ownsRow B 84 4 v D.length (segCells D)) (hS : SegsOf p l L D) (hL : StrictN L) (hLm : ∀ n, n ∈ L ↔ hasN p l n) (ho : Opens w l) (hok : Okay l) (hDl : D.length ≤ 1099511627776) :
    Calls Try.prog 43 #[v] w fun e w' => ∃ n s : Nat, e = .returned (.tuple #[.int .i64 (n : Int), .int .i64 (s : Int)]) ∧ EndAt p l n s ∧ n ≤ 999999 ∧ Below w.heap.size w w' := by
  have hr := reads_of_owns hrow
  rcases Nat.eq_zero_or_pos L.length with h0 | h0
  · have hD0 : D.length = 0 := by rw [hS.1, h0]
    have hDn : D = [] := List.eq_nil_of_length_eq_zero hD0
    subst hDn
    refine (end_none v w hr).mono fun e w' ⟨he, hb⟩ => ⟨0, 0, he, Or.inl ⟨fun m hm' => ?_, rfl, rfl⟩, by omega, hb⟩
    have h1 := (hLm m).2 hm'
    rw [List.eq_nil_of_length_eq_zero h0] at h1
    cases h1
  · obtain ⟨k, hk⟩ : ∃ k, L.length = k + 1 := ⟨L.length - 1, by omega⟩
    have hDk : D.length = k + 1 := by rw [hS.1, hk]
    obtain ⟨r, hf, hd⟩ := hS.2 k (by omega)
    have hdk : D[k] = sgOf L[k] r := by
      rw [List.getElem?_eq_getElem (by omega)] at hd
      exact Option.some.inj hd
    have hmem := List.mem_of_find?_eq_some hf
    have hov := sgOf_ov (n := L[k]) (ho r hmem)
    have hro : Reads w D[k].ov 2 r.opens.length (wrCells r.opens) := by rw [hdk, hov]; exact ho r hmem
    have hoki : Okay [D[k].rw r.opens] := by
      intro x hx
      rw [List.mem_singleton] at hx
      subst hx
      rw [hdk]
      exact hok r hmem
    refine (end_some D v k hDk r.opens w hDl hr hro hoki).mono fun e w' ⟨he, hb⟩ => ⟨L[k], (layB r.safe r.opens).size, ?_, Or.inr ⟨r, fun m hm' => strict_last hL hk m ((hLm m).2 hm'), hf, rfl⟩, ?_, hb⟩
    · rw [he, hdk]
      rfl
    · exact hasN_le (find_has hf)
/-- What Append tells: the plan, and the error. -/
def AppIs (p : ByteArray) (R : List ByteArray) (n s : Nat) (P : List DOp) (err : Int) : Prop :=
  (¬ shortR R ∧ P = [] ∧ err = 2) ∨ (shortR R ∧ ∃ a, apRun p n s (framesOf R) = some a ∧ P = a.plan ∧ err = 0) ∨ (shortR R ∧ apRun p n s (framesOf R) = none ∧ P = [] ∧ err = 4)
theorem AppIs.one {p : ByteArray} {R : List ByteArray} {n s : Nat} {P P' : List DOp} {err err' : Int} (h : AppIs p R n s P err) (h' : AppIs p R n s P' err') : P = P' ∧ err = err' := by
  rcases h with ⟨h1, rfl, rfl⟩ | ⟨h1, a, h2, rfl, rfl⟩ | ⟨h1, h2, rfl, rfl⟩
  · rcases h' with ⟨h3, rfl, rfl⟩ | ⟨h3, _⟩ | ⟨h3, _⟩
    · exact ⟨rfl, rfl⟩
    · exact absurd h3 h1
    · exact absurd h3 h1
  · rcases h' with ⟨h3, _⟩ | ⟨h3, a', h4, rfl, rfl⟩ | ⟨h3, h4, _⟩
    · exact absurd h1 h3
    · rw [h2] at h4
      obtain rfl := Option.some.inj h4
      exact ⟨rfl, rfl⟩
    · rw [h2] at h4
      cases h4
  · rcases h' with ⟨h3, _⟩ | ⟨h3, a', h4, _⟩ | ⟨h3, h4, rfl, rfl⟩
    · exact absurd h1 h3
    · rw [h2] at h4
      cases h4
    · exact ⟨rfl, rfl⟩
/-- A plan that the call owns. -/
def OwnP (w : World) (B : Nat) (v : Value) (P : List DOp) : Prop := w.ownsRow B 55 4 v P.length (dopCells P) ∧ (v = .slice none 0 0 ↔ P = [])
theorem OwnP.below {w w' : World} {B : Nat} {v : Value} {P : List DOp} (h : OwnP w B v P) (hb : Below w.heap.size w w') : OwnP w' B v P := ⟨owns_below h.1 hb, h.2⟩
theorem OwnP.reads {w : World} {B : Nat} {v : Value} {P : List DOp} (h : OwnP w B v P) : Reads w v 4 P.length (dopCells P) := reads_of_owns h.1
theorem OwnP.nil (w : World) (B : Nat) : OwnP w B (.slice none 0 0) [] := ⟨World.ownsRow_nil _ _ _ _, ⟨fun _ => rfl, fun _ => rfl⟩⟩
theorem dop_snoc (P : List DOp) (o : DOp) : dopCells (P ++ [o]) = dopCells P ++ [.int .i64 o.kind, .string o.name, .int .i64 o.pos, .string o.bytes] := by
  unfold dopCells
  rw [List.flatMap_append]
  simp
end Go.Proofs.Ytkecjopojnllnaa
