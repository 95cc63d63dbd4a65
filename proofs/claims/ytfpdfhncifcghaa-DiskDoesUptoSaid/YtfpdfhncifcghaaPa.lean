/- DiskAll: what its first loops build. -/
import Derived.Test.YtfpdfhncifcghaaNb
import Derived.Test.YtfpdfhncifcghaaR
namespace Go.Proofs.Ytfpdfhncifcghaa
open Go.RowKit Go.Deep Go.Joins

/-- Each fate is the one by which all survive. -/
def Alls (l : List Rw) (fs : List Ft) : Prop := ∀ i (_ : i < fs.length) (_ : i < l.length), ∃ wv, fs[i] = allFt wv l[i]
theorem Alls.snoc {l : List Rw} {fs : List Ft} (h : Alls l fs) {k : Nat} (hk : k < l.length) (hf : fs.length = k) (wv : Value) : Alls l (fs ++ [allFt wv l[k]]) := by
  subst hf
  intro i hi hl
  by_cases e : i < fs.length
  · rw [List.getElem_append_left e]
    exact h i e hl
  · obtain rfl : i = fs.length := by simp at hi; omega
    exact ⟨wv, by simp⟩
theorem crash_alls {l : List Rw} {fs : List Ft} (h : Alls l fs) (hf : fs.length = l.length) (i : Nat) (hi : i < l.length) : (crashRow l[i] fs[i]?) = ⟨l[i].name, layB l[i].safe l[i].opens, .slice none 0 0, []⟩ := by
  obtain ⟨wv, e⟩ := h i (by omega) hi
  rw [List.getElem?_eq_getElem (by omega), e, crash_all]

/-- The fates that were built so far. -/
structure FatesAt (wr : World) (B : Nat) (u : Value) (fs : List Ft) : Prop where
  own : wr.ownsRow B 50 3 u fs.length (ftCells fs)
  wholes : ∀ f ∈ fs, wr.ownsRow B 4 1 f.wv f.whole.length (boolCells f.whole)
theorem FatesAt.below {wr w' : World} {B : Nat} {u : Value} {fs : List Ft} (h : FatesAt wr B u fs) (hb : Below wr.heap.size wr w') : FatesAt w' B u fs :=
  ⟨owns_below h.own hb, fun f hf => owns_below (h.wholes f hf) hb⟩
theorem FatesAt.reads {wr : World} {B : Nat} {u : Value} {fs : List Ft} (h : FatesAt wr B u fs) : Reads wr u 3 fs.length (ftCells fs) := reads_of_owns h.own
theorem FatesAt.are {wr : World} {B : Nat} {u : Value} {fs : List Ft} (h : FatesAt wr B u fs) : Wholes wr fs := fun f hf => reads_of_owns (h.wholes f hf)

/-- The fate that is being built. -/
structure TAt (wo wr : World) (v : Value) (m : Nat) : Prop where
  below : Below wo.heap.size wo wr
  lies : wr.heap[wo.heap.size]? = some (.cells #[v, .int .i64 (-1), .int .i64 0] 50 (0, 0))
  own : wr.ownsRow (wo.heap.size + 1) 4 1 v m (boolCells (List.replicate m true))
theorem TAt.start (wo : World) : TAt wo (wo.alloc (.cells #[.slice none 0 0, .int .i64 (-1), .int .i64 0] 50)) (.slice none 0 0) 0 :=
  ⟨below1 wo _, heap_alloc_new _ _, World.ownsRow_nil _ _ _ _⟩
theorem TAt.lt {wo wr : World} {v : Value} {m : Nat} (h : TAt wo wr v m) : wo.heap.size < wr.heap.size := (Array.getElem?_eq_some_iff.1 h.lies).1
theorem TAt.c0 {wo wr : World} {v : Value} {m : Nat} (h : TAt wo wr v m) : wr.cell? ⟨wo.heap.size, 0, none⟩ = some v := by simp [World.cell?, h.lies]
theorem TAt.c1 {wo wr : World} {v : Value} {m : Nat} (h : TAt wo wr v m) : wr.cell? ⟨wo.heap.size, 1, none⟩ = some (.int .i64 (-1)) := by simp [World.cell?, h.lies]
theorem TAt.c2 {wo wr : World} {v : Value} {m : Nat} (h : TAt wo wr v m) : wr.cell? ⟨wo.heap.size, 2, none⟩ = some (.int .i64 0) := by simp [World.cell?, h.lies]
theorem TAt.fz {wo wr : World} {v : Value} {m : Nat} (h : TAt wo wr v m) : wr.frozen? ⟨wo.heap.size, 0, none⟩ = false := by simp [World.frozen?, h.lies]
theorem TAt.lies5 {wo wr w5 : World} {v : Value} {m : Nat} (h : TAt wo wr v m) {o : Obj} (hg : (wr.alloc o).grownBy w5 v.ownBlock) : w5.heap[wo.heap.size]? = some (.cells #[v, .int .i64 (-1), .int .i64 0] 50 (0, 0)) := by
  have hlt := h.lt
  refine (hg.block _ (by simp; omega) fun e => ?_).trans ?_
  · have := (h.own.lt _ e.symm).1; omega
  · exact (heap_alloc_old _ _ hlt).trans h.lies
theorem TAt.next {wo wr w5 : World} {v v' : Value} {m : Nat} (h : TAt wo wr v m) {o : Obj} (hg : (wr.alloc o).grownBy w5 v.ownBlock)
    (ho : w5.ownsRow (wo.heap.size + 1) 4 1 v' (m + 1) (boolCells (List.replicate m true) ++ [.bool true])) : TAt wo (w5.setCell ⟨wo.heap.size, 0, none⟩ v') v' (m + 1) := by
  refine ⟨?_, ?_, ?_⟩
  · exact ((h.below.alloc (Nat.le_of_lt h.lt) o).grown hg (by have := h.lt; simp; omega) fun k hk => by have := (h.own.lt k hk).1; omega).setCell (Nat.le_refl _) _
  · rw [heap_setCell_same w5 _ 0 _ 50 _ (h.lies5 hg)]; rfl
  · have e : boolCells (List.replicate (m + 1) true) = boolCells (List.replicate m true) ++ [.bool true] := by
      unfold boolCells
      rw [List.replicate_succ', List.map_append]; rfl
    rw [e]
    exact owns_other ho (fun hb => by have := (ho.lt _ hb).1; omega) _ _
theorem FatesAt.next {wo wr w6 : World} {B : Nat} {u u' v : Value} {r : Rw} {fs : List Ft} {o : Obj} (h : FatesAt wo B u fs) (ht : TAt wo wr v r.opens.length) (hB : B ≤ wo.heap.size) (hg : (wr.alloc o).grownBy w6 u.ownBlock)
    (ho : w6.ownsRow B 50 3 u' (fs.length + 1) (ftCells fs ++ [v, .int .i64 (-1), .int .i64 0])) : FatesAt w6 B u' (fs ++ [allFt v r]) := by
  have h1 := (h.below ht.below).below (below1 wr o)
  refine ⟨?_, fun f hf => ?_⟩
  · have e : ftCells (fs ++ [allFt v r]) = ftCells fs ++ [v, .int .i64 (-1), .int .i64 0] := by simp [ftCells, allFt]
    rw [e, List.length_append]; exact ho
  · rcases List.mem_append.1 hf with hf | hf
    · exact wider (h1.wholes f hf) h1.own (by decide) hg
    · rw [List.mem_singleton] at hf
      subst hf
      have h2 : (wr.alloc o).ownsRow B 4 1 v r.opens.length (boolCells (List.replicate r.opens.length true)) := owns_mono (owns_below ht.own (below1 wr o)) (by omega)
      have h3 := wider h2 h1.own (by decide) hg
      simpa [allFt] using h3
theorem fates_below {wo wr w6 : World} {B : Nat} {u v : Value} {m : Nat} {fs : List Ft} {w1 : World} (h : FatesAt wo B u fs) (ht : TAt wo wr v m) (hb : Below B w1 wo) (hB : B ≤ wo.heap.size) (o : Obj) (hg : (wr.alloc o).grownBy w6 u.ownBlock) : Below B w1 w6 :=
  ((hb.trans (ht.below.mono hB)).alloc (by have := ht.lt; omega) o).grown hg (by have := ht.lt; simp; omega) fun k hk => (h.own.lt k hk).1

theorem nb_refl (w : World) : Below w.heap.size w w := Below.refl _ _
theorem nb_drew {w W : World} (h : Below w.heap.size w W) : Below w.heap.size w W.drew := h.drew
theorem nb_alloc {w W : World} (h : Below w.heap.size w W) (o : Obj) : Below w.heap.size w (W.alloc o) := h.alloc h.size o
theorem nb_set {w W : World} {b : Nat} (hb : w.heap.size ≤ b) (h : Below w.heap.size w W) (j : Nat) (v : Value) : Below w.heap.size w (W.setCell ⟨b, j, none⟩ v) := h.setCell hb v
/-- A disk's variable. -/
def VarAt (W : World) (b : Nat) (v : Value) : Prop := W.heap[b]? = some (.cells #[v] 24 (0, 0))
theorem VarAt.c {W : World} {b : Nat} {v : Value} (h : VarAt W b v) : W.cell? ⟨b, 0, none⟩ = some v := by unfold VarAt at h; simp [World.cell?, h]
theorem VarAt.f {W : World} {b : Nat} {v : Value} (h : VarAt W b v) : W.frozen? ⟨b, 0, none⟩ = false := by unfold VarAt at h; simp [World.frozen?, h]
theorem VarAt.lt {W : World} {b : Nat} {v : Value} (h : VarAt W b v) : b < W.heap.size := (Array.getElem?_eq_some_iff.1 h).1
theorem VarAt.keep {w W : World} {b : Nat} {v : Value} (h : VarAt w b v) (hb : Below w.heap.size w W) : VarAt W b v := (hb.block b h.lt).trans h
theorem VarAt.new (w : World) (v : Value) : VarAt (w.alloc (.cells #[v] 24)) w.heap.size v := heap_alloc_new _ _
theorem VarAt.old {w : World} {b : Nat} {v : Value} (h : VarAt w b v) (o : Obj) : VarAt (w.alloc o) b v := (heap_alloc_old _ _ h.lt).trans h
theorem VarAt.new2 (w : World) (o : Obj) (v : Value) : VarAt ((w.alloc o).alloc (.cells #[v] 24)) (w.heap.size + 1) v := by
  have h := VarAt.new (w.alloc o) v
  rwa [World.size_alloc] at h
theorem VarAt.same {w : World} {b : Nat} {v : Value} (h : VarAt w b v) (u : Value) : VarAt (w.setCell ⟨b, 0, none⟩ u) b u := by
  unfold VarAt at *
  rw [heap_setCell_same w b 0 _ 24 u h]; rfl
theorem VarAt.other {w : World} {b c : Nat} {v : Value} (h : VarAt w b v) (hc : c ≠ b) (u : Value) : VarAt (w.setCell ⟨c, 0, none⟩ u) b v := (heap_setCell_other w ⟨c, 0, none⟩ b u (fun e => hc e.symm)).trans h
theorem VarAt.two {w : World} {b c : Nat} {v u : Value} (h : VarAt w b v) (k : VarAt w c u) (hne : b ≠ c) :
    (∀ x, (w.setCell ⟨c, 0, none⟩ x).cell? ⟨b, 0, none⟩ = some v) ∧ ∀ x, (w.setCell ⟨b, 0, none⟩ x).cell? ⟨c, 0, none⟩ = some u :=
  ⟨fun x => (h.other hne.symm x).c, fun x => (k.other hne x).c⟩
theorem VarAt.drew {w : World} {b : Nat} {v : Value} (h : VarAt w b v) : VarAt w.drew b v := h
theorem kept1 {w W : World} {v : Value} (h : Below (w.alloc (.cells #[v] 24)).drew.heap.size (w.alloc (.cells #[v] 24)).drew W) : VarAt W w.heap.size v := VarAt.keep (VarAt.drew (VarAt.new w v)) h
theorem kept2 {w W : World} {v u : Value} (h : Below ((w.alloc (.cells #[v] 24)).alloc (.cells #[u] 24)).drew.heap.size ((w.alloc (.cells #[v] 24)).alloc (.cells #[u] 24)).drew W) : VarAt W w.heap.size v ∧ VarAt W (w.heap.size + 1) u :=
  ⟨VarAt.keep (VarAt.drew ((VarAt.new w v).old _)) h, VarAt.keep (VarAt.drew (VarAt.new2 w _ u)) h⟩
theorem back0 {w W : World} (h : Below w.heap.size w W) : Below w.heap.size w W := h
theorem back1 {w W : World} {v : Value} (h : Below (w.alloc (.cells #[v] 24)).heap.size (w.alloc (.cells #[v] 24)) W) : Below w.heap.size w W ∧ VarAt W w.heap.size v := ⟨below_then (below1 _ _) h, (VarAt.new w v).keep h⟩
theorem back2 {w W : World} {v u : Value} (h : Below ((w.alloc (.cells #[v] 24)).alloc (.cells #[u] 24)).heap.size ((w.alloc (.cells #[v] 24)).alloc (.cells #[u] 24)) W) :
    Below w.heap.size w W ∧ VarAt W w.heap.size v ∧ VarAt W (w.heap.size + 1) u := ⟨below_then (below2 _ _ _) h, ((VarAt.new w v).old _).keep h, (VarAt.new2 w _ u).keep h⟩
/-- Both crashed disks, in rows of the call's own. -/
structure Both (wo W : World) (n : Nat) (va vb : Value) (ra rb : List Rw) : Prop where
  below : Below wo.heap.size wo W
  a : W.ownsRow wo.heap.size 35 3 va n (rowCells ra)
  b : W.ownsRow wo.heap.size 35 3 vb n (rowCells rb)
theorem Both.start {wo w5 w6 : World} {n : Nat} {va vb : Value} {ra rb : List Rw} (h5 : Hid (w5.ownsRow wo.heap.size 35 3 va n (rowCells ra))) (h6 : Hid (w6.ownsRow wo.heap.size 35 3 vb n (rowCells rb))) (hb : Below wo.heap.size wo w6) (hm : Below w5.heap.size w5 w6) :
    Both wo w6 n va vb ra rb := ⟨hb, owns_below h5.out hm, h6.out⟩
theorem Both.alloc {wo W : World} {n : Nat} {va vb : Value} {ra rb : List Rw} (h : Both wo W n va vb ra rb) (o : Obj) : Both wo (W.alloc o) n va vb ra rb :=
  ⟨nb_alloc h.below o, owns_below h.a (below1 W o), owns_below h.b (below1 W o)⟩
theorem Both.set {wo W : World} {n b : Nat} {u va vb : Value} {ra rb : List Rw} (hb : wo.heap.size ≤ b) (hv : VarAt W b u) (h : Both wo W n va vb ra rb) (x : Value) : Both wo (W.setCell ⟨b, 0, none⟩ x) n va vb ra rb :=
  ⟨nb_set hb h.below _ _, owns_other h.a (not_at h.a hv (by decide)) _ _, owns_other h.b (not_at h.b hv (by decide)) _ _⟩
/-- Both crashed disks in their variables. -/
structure Two (wo W : World) (A B n : Nat) (va vb : Value) (ra rb : List Rw) : Prop where
  both : Both wo W n va vb ra rb
  a : VarAt W A va
  b : VarAt W B vb
theorem two1 {wo w6 : World} {n : Nat} {va vb : Value} {ra rb : List Rw} (h : Both wo w6 n va vb ra rb) : Two wo ((w6.alloc (.cells #[va] 24)).alloc (.cells #[vb] 24)) w6.heap.size (w6.heap.size + 1) n va vb ra rb :=
  ⟨(h.alloc _).alloc _, (VarAt.new _ _).old _, VarAt.new2 _ _ _⟩
theorem two1' {wo w6 : World} {n : Nat} {va vb : Value} {ra rb : List Rw} (h : Both wo w6 n va vb ra rb) : Two wo ((w6.alloc (.cells #[vb] 24)).alloc (.cells #[va] 24)) (w6.heap.size + 1) w6.heap.size n va vb ra rb :=
  ⟨(h.alloc _).alloc _, VarAt.new2 _ _ _, (VarAt.new _ _).old _⟩
theorem new_set {w6 : World} {A : Nat} {va vb : Value} : VarAt ((w6.setCell ⟨A, 0, none⟩ va).alloc (.cells #[vb] 24)) w6.heap.size vb := by
  have h := VarAt.new (w6.setCell ⟨A, 0, none⟩ va) vb
  rwa [World.size_setCell] at h
theorem two2 {wo w6 : World} {n A : Nat} {va vb u : Value} {ra rb : List Rw} (h : Both wo w6 n va vb ra rb) (hv : VarAt w6 A u) (hA : wo.heap.size ≤ A) : Two wo ((w6.setCell ⟨A, 0, none⟩ va).alloc (.cells #[vb] 24)) A w6.heap.size n va vb ra rb :=
  ⟨(Both.set hA hv h _).alloc _, (hv.same va).old _, new_set⟩
theorem two2' {wo w6 : World} {n B : Nat} {va vb u : Value} {ra rb : List Rw} (h : Both wo w6 n va vb ra rb) (hv : VarAt w6 B u) (hB : wo.heap.size ≤ B) : Two wo ((w6.setCell ⟨B, 0, none⟩ vb).alloc (.cells #[va] 24)) w6.heap.size B n va vb ra rb :=
  ⟨(Both.set hB hv h _).alloc _, new_set, (hv.same vb).old _⟩
theorem two3 {wo w6 : World} {n A B : Nat} {va vb u u' : Value} {ra rb : List Rw} (h : Both wo w6 n va vb ra rb) (hv : VarAt w6 A u) (hk : VarAt w6 B u') (hA : wo.heap.size ≤ A) (hB : wo.heap.size ≤ B) (hne : A ≠ B) :
    Two wo ((w6.setCell ⟨A, 0, none⟩ va).setCell ⟨B, 0, none⟩ vb) A B n va vb ra rb :=
  ⟨Both.set hB (hk.other hne _) (Both.set hA hv h _) _, (hv.same va).other hne.symm _, (hk.other hne va).same vb⟩

/-- Where all lies while the files are gone through. -/
structure AllAt (w wr : World) (l : List Rw) (fs : List Ft) (v va vb : Value) (A B : Nat) : Prop where
  below : Below w.heap.size w wr
  one : wr.cell? ⟨w.heap.size, 0, none⟩ = some v
  two : wr.cell? ⟨A, 0, none⟩ = some va
  three : wr.cell? ⟨B, 0, none⟩ = some vb
  rowsA : Reads wr va 3 l.length (rowCells (crashRows l fs))
  rowsB : Reads wr vb 3 l.length (rowCells (crashRows l []))
theorem AllAt.next {w wr wx : World} {l : List Rw} {fs : List Ft} {v va vb : Value} {A B : Nat} (h : AllAt w wr l fs v va vb A B) (hb : Below wr.heap.size wr wx) : AllAt w wx l fs v va vb A B :=
  ⟨below_then h.below hb, below_cell hb h.one, below_cell hb h.two, below_cell hb h.three, h.rowsA.below hb, h.rowsB.below hb⟩
theorem AllAt.fileA {w wr : World} {l : List Rw} {fs : List Ft} {v va vb : Value} {A B : Nat} (h : AllAt w wr l fs v va vb A B) (hal : Alls l fs) (hf : fs.length = l.length) (i : Nat) (hi : i < l.length) :
    ∃ b off cap, va = .slice (some ⟨b, off, none⟩) l.length cap ∧ b < wr.heap.size ∧ wr.cell? ⟨b, off + i * 3 + 1, none⟩ = some (.string (layB l[i].safe l[i].opens)) := by
  have hrw := h.rowsA
  rw [← crashRows_length l fs] at hrw
  obtain ⟨b, off, cap, hv, _, _, hb, _, d1, _⟩ := hrw.file i (by rw [crashRows_length]; exact hi)
  rw [crashRows_length] at hv
  rw [crashRows_at l fs i _ hi, crash_alls hal hf i hi] at d1
  exact ⟨b, off, cap, hv, hb, d1⟩
theorem AllAt.fileB {w wr : World} {l : List Rw} {fs : List Ft} {v va vb : Value} {A B : Nat} (h : AllAt w wr l fs v va vb A B) (i : Nat) (hi : i < l.length) :
    ∃ b off cap, vb = .slice (some ⟨b, off, none⟩) l.length cap ∧ b < wr.heap.size ∧ wr.cell? ⟨b, off + i * 3 + 1, none⟩ = some (.string l[i].safe) := by
  have hrw := h.rowsB
  rw [← crashRows_length l []] at hrw
  obtain ⟨b, off, cap, hv, _, _, hb, _, d1, _⟩ := hrw.file i (by rw [crashRows_length]; exact hi)
  rw [crashRows_length] at hv
  rw [crashRows_none l i _ hi] at d1
  exact ⟨b, off, cap, hv, hb, d1⟩
theorem reads_one {w : World} (r : Rw) (o : Obj) : Reads ((w.alloc (.cells #[.string r.name, .string r.safe, r.ov] 35)).alloc o) (.slice (some ⟨w.heap.size, 0, none⟩) 1 1) 3 1 (rowCells [r]) := by
  refine ⟨rfl, .inr ⟨_, 1, rfl, Nat.le_refl _, by unfold maxLen; omega, fun j u hu => ?_⟩⟩
  rw [add_lit]
  rcases j with _ | _ | _ | j
  · simpa [rowCells] using hu
  · simpa [rowCells] using hu
  · simpa [rowCells] using hu
  · simp [rowCells] at hu
theorem sameName_self (r : Rw) : sameName r.name r = true := by simp [sameName, sameN]

/-- A crash, as its result reads. -/
theorem crash_owns (l : List Rw) (v : Value) (fs : List Ft) (fv : Value) (wo w : World) (hW : Below wo.heap.size wo w) (hr : Reads w v 3 l.length (rowCells l)) (ho : Opens w l) (hf : Reads w fv 3 fs.length (ftCells fs)) (hwh : Wholes w fs)
    (hok : Okay l) (hreach : l.length * 56 ≤ 140737488355328) (hone : ∀ r ∈ l, r.ov.oneCell' = true) (hmf : fs.length ≤ 9223372036854775807) :
    Calls Try.prog 16 #[.agg #[v], fv] w fun e w' => ∃ q qc, e = .returned (.agg #[.slice q l.length qc]) ∧ Hid (w'.ownsRow wo.heap.size 35 3 (.slice q l.length qc) l.length (rowCells (crashRows l fs))) ∧ Below wo.heap.size wo w' ∧ Below w.heap.size w w' := by
  refine (crash_any l v fs fv w hr ho hf hwh hok hreach hone hmf).mono ?_
  rintro e w' ⟨v', rfl, h1, h2⟩
  obtain ⟨q, qc, rfl⟩ := owns_shape h1
  exact ⟨q, qc, rfl, owns_mono h1 hW.size, below_then hW h2, h2⟩

set_option maxRecDepth 100000 in
set_option maxHeartbeats 1000000 in
theorem every_any (l : List Rw) (v : Value) (w : World) (hr : Reads w v 3 l.length (rowCells l)) (ho : Opens w l) (hok : Okay l) (hreach : l.length * 56 ≤ 140737488355328) (hone : ∀ r ∈ l, r.ov.oneCell' = true) :
    Calls Try.prog 8 #[.agg #[v]] w fun e w' => e = .returned (.bool true) ∧ Below w.heap.size w w' := by
  obtain ⟨p, cap, rfl⟩ := hr.is
  obtain ⟨i0, hi, hz0, hz1, hz2⟩ := info_parts (show (Try.prog.info? 50).map (fun i => (i.zero, i.size, i.bytes)) = some (some (.agg #[.slice none 0 0, .int .i64 0, .int .i64 0]), 3, 40) by kernel_rfl)
  obtain ⟨i1, hj, hy0, hy1, hy2⟩ := info_parts (show (Try.prog.info? 4).map (fun i => (i.zero, i.size, i.bytes)) = some (some (.bool false), 1, 1) by kernel_rfl)
  go_enter Try.func8, Try.ntmps8
  go_wp2_with fail
  refine (awake_any _).mono ?_
  rintro e w1 ⟨rfl, hb1⟩
  have hbw1 := below_then (below1 w _) hb1
  have f0 : w1.cell? ⟨w.heap.size, 0, none⟩ = some (.slice p l.length cap) := (hb1.cell (p := ⟨w.heap.size, 0, none⟩) (by simp)).trans (by simp)
  have hlt1 : w.heap.size < w1.heap.size := lt_of_cell f0
  have HBW1 := Lib.hid hbw1
  clear hbw1 hb1
  go_wp2_with fail
  go_loopw [3, 4] (fun u j wr => ∃ (k : Nat) (fs : List Ft), k ≤ l.length ∧ j = .int .i64 k ∧ Hid (fs.length = k) ∧ Hid (Alls l fs) ∧ Hid (FatesAt wr w1.heap.size u fs) ∧ Hid (Below w1.heap.size w1 wr)) (fun _ j _ => l.length - (intOf j).toNat)
  case atStart => exact ⟨0, [], Nat.zero_le _, rfl, rfl, fun i hi => absurd hi (Nat.not_lt_zero _), ⟨World.ownsRow_nil _ _ _ _, fun f hf => by cases hf⟩, Below.refl _ _⟩
  case round =>
    obtain ⟨k, fs, hk, rfl, hfs, hal, hat, hbl⟩ := hrel
    obtain ⟨wo, hwo⟩ : ∃ wo, wo = wr := ⟨_, rfl⟩
    subst hwo
    have HB := Lib.hid (below_then HBW1.out hbl.out)
    have g0 := below_cell hbl.out f0
    have hlt0 : w.heap.size < wo.heap.size := lt_of_cell g0
    by_cases hlt : k < l.length
    · obtain ⟨b1, off1, cap1, hv, _, _, hb1, c0, c1, c2⟩ := (hr.below HB.out).file k hlt
      obtain ⟨rfl, rfl⟩ : p = some ⟨b1, off1, none⟩ ∧ cap = cap1 := by simpa using hv
      obtain ⟨p3, cap3, hov⟩ := (ho l[k] (List.getElem_mem _)).is
      rw [hov] at c2
      have hopk := (hok l[k] (List.getElem_mem _)).2.2
      clear hv hov c0 c1
      go_wp2_with fail
      go_loopw [6] (fun j wr => ∃ (m : Nat) (t : Value), m ≤ l[k].opens.length ∧ j = .int .i64 m ∧ Hid (TAt wo wr t m)) (fun j _ => l[k].opens.length - (intOf j).toNat)
      case atStart => exact ⟨0, _, Nat.zero_le _, rfl, TAt.start wo⟩
      case round =>
        obtain ⟨m, t, hm, rfl, ht⟩ := hrel
        obtain ⟨q1, qc1, rfl⟩ := owns_shape ht.out.own
        have x0 := ht.out.c0
        have x1 := ht.out.c1
        have x2 := ht.out.c2
        have hltt := ht.out.lt
        have y0 := below_cell ht.out.below g0
        have y2 := below_cell ht.out.below c2
        have hb2 : b1 < wr.heap.size := lt_of_cell y2
        have hlt3 : w.heap.size < wr.heap.size := lt_of_cell y0
        by_cases hlm : m < l[k].opens.length
        · have HO : ∀ a : Obj, (wr.alloc a).ownsRow (wo.heap.size + 1) 4 1 (.slice q1 m qc1) m (boolCells (List.replicate m true)) := fun a => owns_below ht.out.own (below1 wr a)
          have HOW := Lib.hid HO
          clear HO
          have hx0 : ∀ (a : Obj) (w5 : World), (wr.alloc a).grownBy w5 (Value.slice q1 m qc1).ownBlock → w5.cell? ⟨wo.heap.size, 0, none⟩ = some (.slice q1 m qc1) ∧ w5.frozen? ⟨wo.heap.size, 0, none⟩ = false := fun a w5 hg => by
            have h5 := ht.out.lies5 hg
            exact ⟨by simp [World.cell?, h5], by simp [World.frozen?, h5]⟩
          have HX := Lib.hid hx0
          clear hx0
          go_wp2_with (at_builtin; refine wpList_append_own _ rfl _ _ 48 rfl (wo.heap.size + 1) 4 i1 (.bool false) 1 1 Try.underlying48 hj hy0 hy1 hy2 rfl (by decide) _ m (boolCells (List.replicate m true)) rfl ?hown ⟨wr.heap.size, 0, none⟩ 1 1 [.bool true] rfl rfl ?c1 ?c2 ?c3 ?c4 ?c5 ?_; rotate_right 1; intro v2 w5 hown5 hg5 _; obtain ⟨q2, qc2, rfl⟩ := owns_shape hown5; have HO5 := Lib.hid hown5; clear hown5; obtain ⟨z0, z1⟩ := HX.out _ _ hg5)
          case hown => exact HOW.out _
          case c1 =>
            intro j u hu
            rw [add_lit]
            rcases j with _ | j
            · simpa using hu
            · simp at hu
          case c2 => exact fun u hu => by simp at hu; subst hu; rfl
          case c3 => unfold maxLen; omega
          case c4 => omega
          case c5 => simp; omega
          go_roundw
          case rel => exact ⟨m + 1, _, by omega, by go_num, ht.out.next hg5 HO5.out⟩
          case measure => simp [intOf]; omega
        · obtain rfl : m = l[k].opens.length := by omega
          have HO : ∀ a : Obj, (wr.alloc a).ownsRow w1.heap.size 50 3 u3 fs.length (ftCells fs) := fun a => owns_below (owns_below hat.out.own ht.out.below) (below1 wr a)
          have HOW := Lib.hid HO
          have hfl := hfs.out
          have hw1 := hbl.out.size
          clear HO
          go_wp2_with (at_builtin; refine wpList_append_own _ rfl _ _ 39 rfl w1.heap.size 50 i0 (.agg #[.slice none 0 0, .int .i64 0, .int .i64 0]) 3 40 Try.underlying39 hi hz0 hz1 hz2 rfl (by decide) _ fs.length (ftCells fs) rfl ?hown ⟨wr.heap.size, 0, none⟩ 1 1 [.slice q1 l[k].opens.length qc1, .int .i64 (-1), .int .i64 0] rfl rfl ?d1 ?d2 ?d3 ?d4 ?d5 ?_; rotate_right 1; intro v2 w6 hown6 hg6 _; obtain ⟨q2, qc2, rfl⟩ := owns_shape hown6; have HO6 := Lib.hid hown6; clear hown6)
          case hown => exact HOW.out _
          case d1 =>
            intro j u hu
            rw [add_lit]
            rcases j with _ | _ | _ | j
            · simpa using hu
            · simpa using hu
            · simpa using hu
            · simp at hu
          case d2 =>
            intro u hu
            simp at hu
            rcases hu with rfl | rfl | rfl
            · rfl
            · rfl
            · rfl
          case d3 => unfold maxLen; omega
          case d4 => omega
          case d5 => simp; omega
          go_roundw
          case rel => exact ⟨k + 1, fs ++ [allFt (.slice q1 l[k].opens.length qc1) l[k]], by omega, by go_num, by show _ = _; simp [hfl], hal.out.snoc hlt hfl _, (by have h7 := HO6.out; rw [hfl] at h7; exact hat.out.next ht.out hw1 hg6 (u' := .slice q2 (k + 1) qc2) (by rw [hfl]; exact h7)), fates_below hat.out ht.out hbl.out hw1 _ hg6⟩
          case measure => simp [intOf]; omega
    · obtain rfl : k = l.length := by omega
      have hfl := hfs.out
      have hcA : ∀ W, Below wo.heap.size wo W → Calls Try.prog 16 #[.agg #[.slice p l.length cap], u3] W fun e w' => ∃ q qc, e = .returned (.agg #[.slice q l.length qc]) ∧ Hid (w'.ownsRow wo.heap.size 35 3 (.slice q l.length qc) l.length (rowCells (crashRows l fs))) ∧ Below wo.heap.size wo w' ∧ Below W.heap.size W w' := fun W hW =>
        crash_owns l _ fs u3 wo W hW ((hr.below HB.out).below hW) (ho.below (below_then HB.out hW)) ((hat.out.below hW).reads) ((hat.out.below hW).are) hok hreach hone (by omega)
      have hcB : ∀ W, Below wo.heap.size wo W → Calls Try.prog 16 #[.agg #[.slice p l.length cap], .slice none 0 0] W fun e w' => ∃ q qc, e = .returned (.agg #[.slice q l.length qc]) ∧ Hid (w'.ownsRow wo.heap.size 35 3 (.slice q l.length qc) l.length (rowCells (crashRows l []))) ∧ Below wo.heap.size wo w' ∧ Below W.heap.size W w' := fun W hW =>
        crash_owns l _ [] _ wo W hW ((hr.below HB.out).below hW) (ho.below (below_then HB.out hW)) (reads_nil _ 3) (fun r h => by cases h) hok hreach hone (Nat.zero_le _)
      have HCA := Lib.hid hcA
      have HCB := Lib.hid hcB
      have heq : (((l.length : Nat) : Int) == ((l.length : Nat) : Int)) = true := by simp
      have HAL := Lib.hid hal.out
      clear hcA hcB hal hat hfs hbl
      go_wp2_with fail
      rename_i K0 hK0
      have hrest : ∀ (qa qb : Option Addr) (ca cb A B : Nat) (W : World), Two wo W A B l.length (.slice qa l.length ca) (.slice qb l.length cb) (crashRows l fs) (crashRows l []) →
          K0 ⟨#[.agg #[.slice p l.length cap], .pointer (some ⟨w.heap.size, 0, none⟩), .bool false, u3, .int .i64 l.length, u5, u6, .pointer (some ⟨A, 0, none⟩), .pointer (some ⟨B, 0, none⟩), undef, undef, undef, undef, .bool true, .bool false, .int .i64 l.length, .pointer (some ⟨w.heap.size, 0, none⟩), .slice p l.length cap, .int .i64 l.length, .bool false, u20, u21, u22, u23, u24, u25, u26, u27, u28, u29, u30, u31, u32, u33, u34, u35, u36, u37, u38, u39, u40, u41, u42, .agg #[.slice p l.length cap], u3, .agg #[.slice qa l.length ca], .agg #[.slice p l.length cap], .agg #[.slice qb l.length cb], undef, undef, undef, undef, undef, undef, undef, undef, undef, undef, undef, undef, undef, undef, undef, undef, undef, undef, undef, undef, undef, undef, undef, undef, undef, undef, undef, undef, undef, undef, undef, undef, undef, undef, undef, undef, undef, undef, undef, undef, undef, undef, undef, undef, undef, undef, undef, undef, undef, undef, undef, undef, undef, undef, undef, undef, undef, undef, undef, undef, undef, undef, undef, undef, undef, undef, undef, undef], []⟩ W := by
        intro qa qb ca cb A B W hT
        refine hK0 _ _ ?_
        have hS : AllAt w W l fs (.slice p l.length cap) (.slice qa l.length ca) (.slice qb l.length cb) A B :=
          ⟨below_then HB.out hT.both.below, below_cell hT.both.below g0, hT.a.c, hT.b.c, reads_of_owns hT.both.a, reads_of_owns hT.both.b⟩
        have HS := Lib.hid hS
        have q1 := hS.one
        have q2 := hS.two
        have q3 := hS.three
        have r1 := lt_of_cell q1
        have r2 := lt_of_cell q2
        have r3 := lt_of_cell q3
        clear hS hT HCA HCB hK0
        go_wp2_with fail
        go_loopw [9] (fun j wr => ∃ i : Nat, i ≤ l.length ∧ j = .int .i64 i ∧ Hid (AllAt w wr l fs (.slice p l.length cap) (.slice qa l.length ca) (.slice qb l.length cb) A B)) (fun j _ => l.length - (intOf j).toNat)
        case atStart => exact ⟨0, Nat.zero_le _, rfl, HS⟩
        case round =>
          obtain ⟨i, hi, rfl, hat⟩ := hrel
          have x1 := hat.out.one
          have x2 := hat.out.two
          have x3 := hat.out.three
          have y1 := lt_of_cell x1
          have y2 := lt_of_cell x2
          have y3 := lt_of_cell x3
          clear q1 q2 q3 r1 r2 r3
          by_cases hlt : i < l.length
          · obtain ⟨b1, off1, cap1, hv, _, _, hb1, c0, c1, c2⟩ := (hr.below hat.out.below).file i hlt
            obtain ⟨rfl, rfl⟩ : p = some ⟨b1, off1, none⟩ ∧ cap = cap1 := by simpa using hv
            obtain ⟨b2, off2, cap2, hv2, hb2, d1⟩ := hat.out.fileA HAL.out hfl i hlt
            obtain ⟨rfl, rfl⟩ : qa = some ⟨b2, off2, none⟩ ∧ ca = cap2 := by simpa using hv2
            obtain ⟨b3, off3, cap3, hv3, hb3, e1⟩ := hat.out.fileB i hlt
            obtain ⟨rfl, rfl⟩ : qb = some ⟨b3, off3, none⟩ ∧ cb = cap3 := by simpa using hv3
            obtain ⟨p3, cap4, hov⟩ := (ho l[i] (List.getElem_mem _)).is
            clear hv hv2 hv3
            have hby : ∀ W, Below (wr.heap.size + 2) ((wr.alloc (.cells #[.string l[i].name, .string l[i].safe, l[i].ov] 35)).alloc (.cells #[.slice (some ⟨wr.heap.size, 0, none⟩) 1 1] 24)) W →
                Calls Try.prog 19 #[.agg #[.slice (some ⟨wr.heap.size, 0, none⟩) 1 1], .string l[i].name] W fun e w' => e = .returned (.tuple #[.string (layB l[i].safe l[i].opens), .int .i64 0]) ∧
                  Below (wr.heap.size + 2) ((wr.alloc (.cells #[.string l[i].name, .string l[i].safe, l[i].ov] 35)).alloc (.cells #[.slice (some ⟨wr.heap.size, 0, none⟩) 1 1] 24)) w' := fun W hW => by
              refine (bytes_some [l[i]] _ l[i].name W 0 (by simp) ((reads_one l[i] _).below (by simpa using hW)) (fun r hr => ?_) (fun r hr => ?_) (by simp) (idx_some (by simp) (fun j _ h => absurd h (Nat.not_lt_zero _)) (sameName_self _))).mono fun e w' ⟨h1, h2⟩ => ⟨h1, ?_⟩
              · rw [List.mem_singleton] at hr
                subst hr
                exact ((ho l[i] (List.getElem_mem _)).below hat.out.below).below ((below2 wr _ _).trans (hW.mono (by omega)))
              · rw [List.mem_singleton] at hr
                subst hr
                exact hok _ (List.getElem_mem _)
              · have := hW.size
                simp only [World.size_alloc] at this
                exact hW.trans (h2.mono (by omega))
            rw [hov] at c2 hby
            have HBY := Lib.hid hby
            clear hby hov
            go_wp2_with fail
            go_region_held3 (fun w' => w'.cell? ⟨wr.heap.size + 1, 0, none⟩ = some (.slice (some ⟨wr.heap.size, 0, none⟩) 1 1) ∧ w'.cell? ⟨w.heap.size, 0, none⟩ = some (.slice (some ⟨b1, off1, none⟩) l.length cap) ∧ w'.cell? ⟨b1, off1 + i * 3, none⟩ = some (.string l[i].name))
              (first | with_reducible exact n5 | go_keep)
              (first | (go_at_call 19; with_reducible refine (HBY.out _ ?bel).mono ?_; (case bel => exact (Below.refl _ _).drew); rintro e w5 ⟨rfl, M5⟩; have N5 := (below2 wr _ _).trans (M5.mono (Nat.le_add_right _ _)); have n5 : w5.cell? ⟨wr.heap.size + 1, 0, none⟩ = some (.slice (some ⟨wr.heap.size, 0, none⟩) 1 1) ∧ w5.cell? ⟨w.heap.size, 0, none⟩ = some (.slice (some ⟨b1, off1, none⟩) l.length cap) ∧ w5.cell? ⟨b1, off1 + i * 3, none⟩ = some (.string l[i].name) := ⟨(M5.cell (p := ⟨wr.heap.size + 1, 0, none⟩) (by simp)).trans (by simp), below_cell N5 x1, below_cell N5 c0⟩))
            go_wp2_with fail
            have z0 : ∀ p : Near w5, p.wx.cell? ⟨w.heap.size, 0, none⟩ = some (.slice (some ⟨b1, off1, none⟩) l.length cap) := fun p => below_cell p.near (below_cell N5 x1)
            have z1 : ∀ p : Near w5, p.wx.cell? ⟨A, 0, none⟩ = some (.slice (some ⟨b2, off2, none⟩) l.length ca) := fun p => below_cell p.near (below_cell N5 x2)
            have z2 : ∀ p : Near w5, p.wx.cell? ⟨B, 0, none⟩ = some (.slice (some ⟨b3, off3, none⟩) l.length cb) := fun p => below_cell p.near (below_cell N5 x3)
            have z3 : ∀ p : Near w5, p.wx.cell? ⟨b1, off1 + i * 3 + 1, none⟩ = some (.string l[i].safe) := fun p => below_cell p.near (below_cell N5 c1)
            have z4 : ∀ p : Near w5, p.wx.cell? ⟨b2, off2 + i * 3 + 1, none⟩ = some (.string (layB l[i].safe l[i].opens)) := fun p => below_cell p.near (below_cell N5 d1)
            have z5 : ∀ p : Near w5, p.wx.cell? ⟨b3, off3 + i * 3 + 1, none⟩ = some (.string l[i].safe) := fun p => below_cell p.near (below_cell N5 e1)
            have hne : Nonempty (Near w5) := ⟨⟨w5, Below.refl _ _⟩⟩
            refine wp_region_near (by kernel_rfl) (by kernel_rfl) ?_
            repeat (go_big_quiet_step (fail))
            refine wpQuiet_nil ?_
            rintro _ ⟨pn, rfl⟩
            go_wp2_with fail
            go_round
            case rel => exact ⟨i + 1, by omega, by go_num, hat.out.next (below_then N5 pn.near)⟩
            case measure => simp [intOf]; omega
          · have HBX := Lib.hid hat.out.below
            go_wp2_with fail
            go_ret
            exact ⟨rfl, HBX.out⟩
      go_region_held3 (fun w' => w'.cell? ⟨w.heap.size, 0, none⟩ = some (.slice p l.length cap)) (first | with_reducible exact n6 | with_reducible exact n5 | (with_reducible refine below_cell (w := wo) ?_ g0; (repeat (first | with_reducible exact N6 | with_reducible exact N5 | with_reducible exact nb_refl _ | with_reducible refine nb_drew ?_ | with_reducible refine nb_alloc ?_ _ | with_reducible refine nb_set (by omega) ?_ _ _))))
        (first | (go_at_call 16; with_reducible refine (HCB.out _ ?bel).mono ?_; (case bel => (repeat (first | with_reducible exact N6 | with_reducible exact N5 | with_reducible exact nb_refl _ | with_reducible refine nb_drew ?_ | with_reducible refine nb_alloc ?_ _ | with_reducible refine nb_set (by omega) ?_ _ _))); rintro e w6 ⟨qb, cb, rfl, hrb, N6, hb6⟩; have n6 := below_cell N6 g0; have s6 := N6.size; have t6 := hb6.size; (first | (obtain ⟨M6, V3, V4⟩ := back2 (w := w5) hb6; have v3 := V3.c; have v4 := V4.c; have y3 := V3.f; have y4 := V4.f; have l3 := V3.lt; have l4 := V4.lt) | (obtain ⟨M6, V3⟩ := back1 (w := w5) hb6; have v3 := V3.c; have y3 := V3.f; have l3 := V3.lt) | have M6 := back0 (w := w5) hb6); have m6 := M6.size; try (have U1 := V1.keep M6; have u1' := U1.c; have z1' := U1.f; have l1' := U1.lt); try (have U2 := V2.keep M6; have u2' := U2.c; have z2' := U2.f; have l2' := U2.lt); try (have T1 := U1.two U2 (by omega); have p1 := T1.1; have p2 := T1.2); try (have T2 := U1.two V3 (by omega); have p3 := T2.1; have p4 := T2.2); try (have T3 := V3.two V4 (by omega); have p5 := T3.1; have p6 := T3.2)) | (go_at_call 16; with_reducible refine (HCA.out _ ?bel).mono ?_; (case bel => (repeat (first | with_reducible exact N6 | with_reducible exact N5 | with_reducible exact nb_refl _ | with_reducible refine nb_drew ?_ | with_reducible refine nb_alloc ?_ _ | with_reducible refine nb_set (by omega) ?_ _ _))); rintro e w5 ⟨qa, ca, rfl, hra, N5, hb5⟩; have n5 := below_cell N5 g0; have s5 := N5.size; have t5 := hb5.size; first | (obtain ⟨V1, V2⟩ := kept2 (w := wo) hb5; have v1 := V1.c; have v2 := V2.c; have y1 := V1.f; have y2 := V2.f; have l1 := V1.lt; have l2 := V2.lt) | (have V1 := kept1 (w := wo) hb5; have v1 := V1.c; have y1 := V1.f; have l1 := V1.lt) | skip))
      all_goals
        have K6 := Both.start hra hrb N6 M6
        show K0 _ _
        first
          | with_reducible exact hrest _ _ _ _ _ _ _ (two1 K6)
          | with_reducible exact hrest _ _ _ _ _ _ _ (two1' K6)
          | with_reducible exact hrest _ _ _ _ _ _ _ (two2 K6 U1 (by omega))
          | with_reducible exact hrest _ _ _ _ _ _ _ (two2 K6 V3 (by omega))
          | with_reducible exact hrest _ _ _ _ _ _ _ (two2' K6 U1 (by omega))
          | with_reducible exact hrest _ _ _ _ _ _ _ (two2' K6 V3 (by omega))
          | with_reducible exact hrest _ _ _ _ _ _ _ (two3 K6 U1 U2 (by omega) (by omega) (by omega))
          | with_reducible exact hrest _ _ _ _ _ _ _ (two3 K6 U2 U1 (by omega) (by omega) (by omega))
          | with_reducible exact hrest _ _ _ _ _ _ _ (two3 K6 U1 V3 (by omega) (by omega) (by omega))
          | with_reducible exact hrest _ _ _ _ _ _ _ (two3 K6 V3 U1 (by omega) (by omega) (by omega))
          | with_reducible exact hrest _ _ _ _ _ _ _ (two3 K6 V3 V4 (by omega) (by omega) (by omega))
          | with_reducible exact hrest _ _ _ _ _ _ _ (two3 K6 V4 V3 (by omega) (by omega) (by omega))
end Go.Proofs.Ytfpdfhncifcghaa
