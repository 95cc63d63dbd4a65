/- The last run; begins; read and Open of both sides. -/
import Derived.Test.YtkecjopojnllnaaM17
import Derived.Test.YtkecjopojnllnaaM14
import Derived.Test.YtkecjopojnllnaaM13
namespace Go.Proofs.Ytkecjopojnllnaa
open Go.RowKit Go.Deep Go.Joins

/-- Where the run begins that ends at a place. -/
def runF (f : Nat → Int) : Nat → Nat
  | 0 => 0
  | i + 1 => if f i + 1 = f (i + 1) then runF f i else i + 1
theorem runF_le (f : Nat → Int) (i : Nat) : runF f i ≤ i := by
  induction i with
  | zero => exact Nat.le_refl _
  | succ i ih => unfold runF; split <;> omega
theorem runF_congr {f g : Nat → Int} {i : Nat} (h : ∀ j, j ≤ i → f j = g j) : runF f i = runF g i := by
  induction i with
  | zero => rfl
  | succ i ih =>
    unfold runF
    rw [h i (by omega), h (i + 1) (by omega), ih fun j hj => h j (by omega)]
theorem runF_yes {f : Nat → Int} {i : Nat} (h : f i + 1 = f (i + 1)) : runF f (i + 1) = runF f i := by rw [runF, if_pos h]
theorem runF_no {f : Nat → Int} {i : Nat} (h : ¬ f i + 1 = f (i + 1)) : runF f (i + 1) = i + 1 := by rw [runF, if_neg h]
set_option maxRecDepth 100000 in
set_option maxHeartbeats 2000000 in
theorem run_any (f : Nat → Int) (n : Nat) (b off cap : Nat) (w : World) (hn : n ≤ 1000000) (hb : b < w.heap.size) (hc : ∀ j, j ≤ n → w.cell? ⟨b, off + j, none⟩ = some (.int .i64 (f j))) (hf : ∀ j, j ≤ n → 0 ≤ f j ∧ f j ≤ 999999) :
    Calls Try.prog 38 #[.slice (some ⟨b, off, none⟩) (n + 1 : Nat) cap] w fun e w' => e = .returned (.int .i64 ((runF f n : Nat) : Int)) ∧ Below w.heap.size w w' := by
  have HC := Lib.hid hc
  have HF := Lib.hid hf
  clear hc hf
  have e0 : ((n + 1 : Nat) : Int) - 1 = (n : Int) := by omega
  obtain ⟨m, hm⟩ : ∃ m, n + 1 = m := ⟨_, rfl⟩
  rw [hm] at e0
  rw [hm]
  go_enter Try.func38, Try.ntmps38
  go_wp2_with fail
  go_loopw [3] (fun k wr => ∃ i : Nat, i ≤ n ∧ k = .int .i64 (i : Int) ∧ Hid (runF f n = runF f i) ∧ Hid (Below w.heap.size w wr)) (fun k _ => (intOf k).toNat)
  case atStart => exact ⟨n, Nat.le_refl _, rfl, rfl, Below.refl _ _⟩
  case round =>
    obtain ⟨i, hi, rfl, hrun, hbl⟩ := hrel
    rcases i with _ | j
    · have g1 : decide ((0 : Int) < ((0 : Nat) : Int)) = false := by decide
      go_wp2_with fail
      go_region
      go_wp2_with fail
      go_ret
      exact ⟨by rw [hrun.out]; rfl, hbl.out.drew⟩
    · have c1 := (hbl.out.cell (p := ⟨b, off + j, none⟩) hb).trans (HC.out j (by omega))
      have c2 := (hbl.out.cell (p := ⟨b, off + (j + 1), none⟩) hb).trans (HC.out (j + 1) hi)
      have b1 := HF.out j (by omega)
      have b2 := HF.out (j + 1) hi
      have HY := Lib.hid (@runF_yes f j)
      have HN := Lib.hid (@runF_no f j)
      obtain ⟨i, hij⟩ : ∃ i, j + 1 = i := ⟨_, rfl⟩
      rw [hij] at c2 b2 HY HN hrun hi
      rw [hij]
      obtain ⟨x, hx⟩ : ∃ x, f j = x := ⟨_, rfl⟩
      obtain ⟨y, hy⟩ : ∃ y, f i = y := ⟨_, rfl⟩
      rw [hx] at c1 b1 HY HN
      rw [hy] at c2 b2 HY HN
      have e1 : (i : Int) - 1 = (j : Int) := by omega
      have g1 : decide ((0 : Int) < (i : Int)) = true := by rw [decide_eq_true_eq]; omega
      have g2 : (0 : Int) < (i : Int) := by omega
      have g3 : 0 < i := by omega
      have g4 : i ≠ 0 := by omega
      have z1 : (0 : Int) ≤ (j : Int) := by omega
      have z2 : (0 : Int) ≤ (i : Int) := by omega
      have z3 : (j : Int) < (m : Int) := by omega
      have z4 : (i : Int) < (m : Int) := by omega
      have z5 : j < m := by omega
      have z6 : i < m := by omega
      have w1 : IntKind.i64.wrap ((i : Int) - 1) = (j : Int) := by rw [IntKind.wrap_i64]; omega
      have w3 : IntKind.i64.wrap (j : Int) = (j : Int) := by rw [IntKind.wrap_i64]; omega
      have w2 : IntKind.i64.wrap (y - 1) = y - 1 := by rw [IntKind.wrap_i64]; omega
      have HIJ := Lib.hid (And.intro hij hi)
      clear hij hx hy
      by_cases ht : x + 1 = y
      · have t1 : (x == y - 1) = true := by rw [beq_iff_eq]; omega
        have t2 : decide (x = y - 1) = true := by rw [decide_eq_true_eq]; omega
        have HT := Lib.hid ht
        clear ht b1 b2
        go_wp2_with fail
        go_region_held3 (fun W => W.cell? ⟨b, off + j, none⟩ = some (.int .i64 x) ∧ W.cell? ⟨b, off + i, none⟩ = some (.int .i64 y)) (first | exact ⟨c1, c2⟩ | fail) (fail)
        go_wp2_with fail
        go_roundw
        case rel => exact ⟨j, by have := HIJ.out; omega, by go_num, Lib.hid (hrun.out.trans (HY.out HT.out)), Lib.hid hbl.out.drew⟩
        case measure => have := HIJ.out; simp [intOf]; omega
      · have t1 : (x == y - 1) = false := by rw [beq_eq_false_iff_ne]; omega
        have t2 : decide (x = y - 1) = false := by rw [decide_eq_false_iff_not]; omega
        have t3 : ¬ x = y - 1 := by omega
        have HT := Lib.hid ht
        clear ht b1 b2
        go_wp2_with fail
        go_region_held3 (fun W => W.cell? ⟨b, off + j, none⟩ = some (.int .i64 x) ∧ W.cell? ⟨b, off + i, none⟩ = some (.int .i64 y)) (first | exact ⟨c1, c2⟩ | fail) (fail)
        go_wp2_with fail
        go_ret
        exact ⟨by rw [hrun.out, HN.out HT.out]; rfl, hbl.out.drew⟩
set_option maxRecDepth 100000 in
set_option maxHeartbeats 2000000 in
theorem lastRun_any (f : Nat → Int) (n : Nat) (b off cap : Nat) (w : World) (hn : n ≤ 1000000) (hb : b < w.heap.size) (hc : ∀ j, j ≤ n → w.cell? ⟨b, off + j * 4, none⟩ = some (.int .i64 (f j))) (hf : ∀ j, j ≤ n → 0 ≤ f j ∧ f j ≤ 999999) (hcap : n + 1 ≤ cap) :
    Calls Try.prog 32 #[.slice (some ⟨b, off, none⟩) (n + 1 : Nat) cap] w fun e w' => e = .returned (.slice (some ⟨b, off + runF f n * 4, none⟩) (n + 1 - runF f n : Nat) (cap - runF f n)) ∧ Below w.heap.size w w' := by
  have HC := Lib.hid hc
  have HF := Lib.hid hf
  clear hc hf
  have e0 : ((n + 1 : Nat) : Int) - 1 = (n : Int) := by omega
  obtain ⟨m, hm⟩ : ∃ m, n + 1 = m := ⟨_, rfl⟩
  rw [hm] at e0
  rw [hm]
  go_enter Try.func32, Try.ntmps32
  go_wp2_with fail
  go_loopw [3] (fun k wr => ∃ i : Nat, i ≤ n ∧ k = .int .i64 (i : Int) ∧ Hid (runF f n = runF f i) ∧ Hid (Below w.heap.size w wr)) (fun k _ => (intOf k).toNat)
  case atStart => exact ⟨n, Nat.le_refl _, rfl, rfl, Below.refl _ _⟩
  case round =>
    obtain ⟨i, hi, rfl, hrun, hbl⟩ := hrel
    rcases i with _ | j
    · have g1 : decide ((0 : Int) < ((0 : Nat) : Int)) = false := by decide
      go_wp2_with fail
      go_region
      go_wp2_with fail
      go_ret
      exact ⟨by rw [hrun.out]; rfl, hbl.out.drew⟩
    · have c1 := (hbl.out.cell (p := ⟨b, off + j * 4, none⟩) hb).trans (HC.out j (by omega))
      have c2 := (hbl.out.cell (p := ⟨b, off + (j + 1) * 4, none⟩) hb).trans (HC.out (j + 1) hi)
      have b1 := HF.out j (by omega)
      have b2 := HF.out (j + 1) hi
      have HY := Lib.hid (@runF_yes f j)
      have HN := Lib.hid (@runF_no f j)
      obtain ⟨i, hij⟩ : ∃ i, j + 1 = i := ⟨_, rfl⟩
      rw [hij] at c2 b2 HY HN hrun hi
      rw [hij]
      obtain ⟨x, hx⟩ : ∃ x, f j = x := ⟨_, rfl⟩
      obtain ⟨y, hy⟩ : ∃ y, f i = y := ⟨_, rfl⟩
      rw [hx] at c1 b1 HY HN
      rw [hy] at c2 b2 HY HN
      have e1 : (i : Int) - 1 = (j : Int) := by omega
      have g1 : decide ((0 : Int) < (i : Int)) = true := by rw [decide_eq_true_eq]; omega
      have g2 : (0 : Int) < (i : Int) := by omega
      have g3 : 0 < i := by omega
      have g4 : i ≠ 0 := by omega
      have z1 : (0 : Int) ≤ (j : Int) := by omega
      have z2 : (0 : Int) ≤ (i : Int) := by omega
      have z3 : (j : Int) < (m : Int) := by omega
      have z4 : (i : Int) < (m : Int) := by omega
      have z5 : j < m := by omega
      have z6 : i < m := by omega
      have w1 : IntKind.i64.wrap ((i : Int) - 1) = (j : Int) := by rw [IntKind.wrap_i64]; omega
      have w3 : IntKind.i64.wrap (j : Int) = (j : Int) := by rw [IntKind.wrap_i64]; omega
      have w2 : IntKind.i64.wrap (x + 1) = x + 1 := by rw [IntKind.wrap_i64]; omega
      have HIJ := Lib.hid (And.intro hij hi)
      clear hij hx hy
      by_cases ht : x + 1 = y
      · have t1 : (x + 1 == y) = true := by rw [beq_iff_eq]; omega
        have t2 : decide (x + 1 = y) = true := by rw [decide_eq_true_eq]; omega
        have HT := Lib.hid ht
        clear ht b1 b2
        go_wp2_with fail
        go_region_held3 (fun W => W.cell? ⟨b, off + j * 4, none⟩ = some (.int .i64 x) ∧ W.cell? ⟨b, off + i * 4, none⟩ = some (.int .i64 y)) (first | exact ⟨c1, c2⟩ | fail) (fail)
        go_wp2_with fail
        go_roundw
        case rel => exact ⟨j, by have := HIJ.out; omega, by go_num, Lib.hid (hrun.out.trans (HY.out HT.out)), Lib.hid hbl.out.drew⟩
        case measure => have := HIJ.out; simp [intOf]; omega
      · have t1 : (x + 1 == y) = false := by rw [beq_eq_false_iff_ne]; omega
        have t2 : decide (x + 1 = y) = false := by rw [decide_eq_false_iff_not]; omega
        have t3 : ¬ x + 1 = y := by omega
        have HT := Lib.hid ht
        clear ht b1 b2
        go_wp2_with fail
        go_region_held3 (fun W => W.cell? ⟨b, off + j * 4, none⟩ = some (.int .i64 x) ∧ W.cell? ⟨b, off + i * 4, none⟩ = some (.int .i64 y)) (first | exact ⟨c1, c2⟩ | fail) (fail)
        go_wp2_with fail
        go_ret
        exact ⟨by rw [hrun.out, HN.out HT.out]; rfl, hbl.out.drew⟩

end Go.Proofs.Ytkecjopojnllnaa
namespace Go.Proofs.Ytkecjopojnllnaa
open Go.RowKit Go.Deep Go.Joins

/-- The segment's four cells at a place. -/
def CellsAt (w : World) (b o : Nat) (s : Sg) : Prop := w.cell? ⟨b, o, none⟩ = some (.int .i64 s.num) ∧ w.cell? ⟨b, o + 1, none⟩ = some (.string s.name) ∧ w.cell? ⟨b, o + 2, none⟩ = some (.string s.safe) ∧ w.cell? ⟨b, o + 3, none⟩ = some s.ov
theorem CellsAt.below {w w' : World} {b o : Nat} {s : Sg} (h : CellsAt w b o s) (hb : b < w.heap.size) (hx : Below w.heap.size w w') : CellsAt w' b o s :=
  ⟨(hx.cell (p := ⟨b, o, none⟩) hb).trans h.1, (hx.cell (p := ⟨b, o + 1, none⟩) hb).trans h.2.1, (hx.cell (p := ⟨b, o + 2, none⟩) hb).trans h.2.2.1, (hx.cell (p := ⟨b, o + 3, none⟩) hb).trans h.2.2.2⟩
set_option maxRecDepth 100000 in
set_option maxHeartbeats 2000000 in
theorem begins_any (s : Sg) (L : List Wr) (b off len cap : Nat) (w : World) (hlen : 0 < len) (hc : CellsAt w b off s) (ho : Reads w s.ov 2 L.length (wrCells L)) (hok : Okay [s.rw L]) (hz : (layB s.safe L).size ≤ 1099511627776) :
    Calls Try.prog 33 #[.slice (some ⟨b, off, none⟩) len cap] w fun e w' => e = .returned (.bool (decide (0 < (scanL (layB s.safe L)).1.length))) ∧ Below w.heap.size w w' := by
  obtain ⟨k0, k1, k2, k3⟩ := hc
  have HB := Lib.hid (bytesOf_any s L w ho hok)
  unfold Sg.val at HB
  have HS := Lib.hid (fun W => scan_any (layB s.safe L) W hz)
  clear ho hok
  have g1 : (0 : Int) < (len : Int) := by omega
  go_enter Try.func33, Try.ntmps33
  go_wp2_with (first
    | (go_at_call 56; (with_reducible refine HB.out.mono ?_); rintro e w1 ⟨rfl, hb1⟩; have HB1 := Lib.hid hb1; clear hb1)
    | (go_at_call 55; (with_reducible refine (HS.out _).mono ?_); rintro e w2 ⟨v, rfl, hown, hb2⟩; obtain ⟨pv, cv, rfl⟩ := owns_shape hown; have HB2 := Lib.hid hb2; clear hown hb2)
    | fail)
  go_ret
  exact ⟨by simp, below_then HB1.out HB2.out⟩

end Go.Proofs.Ytkecjopojnllnaa
namespace Go.Proofs.Ytkecjopojnllnaa
open Go.RowKit Go.Deep Go.Joins

def cutOp (x : ByteArray) (n : Nat) : DOp := ⟨3, x, (n : Int), ⟨#[]⟩⟩
/-- The records of a run, and what cuts its torn end off. -/
def readS : List (ByteArray × ByteArray) → List ByteArray × List DOp
  | [] => ([], [])
  | x :: X => if (scanL x.2).2 < x.2.size then ((scanL x.2).1, (X.reverse.map fun y => dropOp y.1) ++ [cutOp x.1 (scanL x.2).2]) else ((scanL x.2).1 ++ (readS X).1, (readS X).2)
/-- On the way: these records have come, of so many segments. -/
def ReadAt (X : List (ByteArray × ByteArray)) (P : List ByteArray) (i : Nat) : Prop :=
  i ≤ X.length ∧ P.length ≤ i * 233017 ∧ readS X = (P ++ (readS (X.drop i)).1, (readS (X.drop i)).2)
theorem ReadAt.start (X : List (ByteArray × ByteArray)) : ReadAt X [] 0 := ⟨Nat.zero_le _, by simp, rfl⟩
theorem scanL_at (s : ByteArray) : ∃ P a, ScanAt s P a ∧ scanL s = (P, a) := by
  suffices h : ∀ f P a, s.size + 1 ≤ a + f → ScanAt s P a → ∃ P a, ScanAt s P a ∧ scanL s = (P, a) from h (s.size + 1) [] 0 (by omega) (ScanAt.start s)
  intro f
  induction f with
  | zero => intro P a h1 h2; have := h2.1; omega
  | succ f ih =>
    intro P a h1 h2
    cases h : oneAt s a with
    | none => exact ⟨P, a, h2, h2.over h⟩
    | some b => exact ih _ _ (by omega) (h2.next h)
theorem scanL_size (s : ByteArray) : (scanL s).2 ≤ s.size ∧ (scanL s).1.length * 9 ≤ s.size := by
  obtain ⟨P, a, h, e⟩ := scanL_at s
  rw [e]
  exact ⟨h.1, by have := h.1; have := h.2.1; dsimp only; omega⟩
theorem ReadAt.stop {X : List (ByteArray × ByteArray)} {P : List ByteArray} {i : Nat} (h : ReadAt X P i) (hi : i < X.length) (ht : (scanL X[i].2).2 < X[i].2.size) :
    readS X = (P ++ (scanL X[i].2).1, ((X.drop (i + 1)).reverse.map fun y => dropOp y.1) ++ [cutOp X[i].1 (scanL X[i].2).2]) := by
  rw [h.2.2, List.drop_eq_getElem_cons hi, readS, if_pos ht]
theorem ReadAt.next {X : List (ByteArray × ByteArray)} {P : List ByteArray} {i : Nat} (h : ReadAt X P i) (hi : i < X.length) (ht : ¬ (scanL X[i].2).2 < X[i].2.size) (hz : X[i].2.size ≤ 2097152) : ReadAt X (P ++ (scanL X[i].2).1) (i + 1) := by
  have h2 := (scanL_size X[i].2).2
  refine ⟨hi, by rw [List.length_append]; have := h.2.1; omega, ?_⟩
  rw [h.2.2, List.drop_eq_getElem_cons hi, readS, if_neg ht, List.append_assoc]
theorem ReadAt.done {X : List (ByteArray × ByteArray)} {P : List ByteArray} (h : ReadAt X P X.length) : readS X = (P, []) := by
  rw [h.2.2, List.drop_length, readS, List.append_nil]
/-- A run in memory: its segments, with their open writes. -/
structure RunIn (w : World) (b off cap : Nat) (R : List (Sg × List Wr)) : Prop where
  hb : b < w.heap.size
  len : R.length ≤ 1000000
  le : R.length ≤ cap
  mx : cap ≤ maxLen
  cells : ∀ j (hj : j < R.length), CellsAt w b (off + j * 4) R[j].1
  opens : ∀ j (hj : j < R.length), Reads w R[j].1.ov 2 R[j].2.length (wrCells R[j].2)
  okay : ∀ j (hj : j < R.length), Okay [R[j].1.rw R[j].2]
  size : ∀ j (hj : j < R.length), (layB R[j].1.safe R[j].2).size ≤ 2097152
theorem RunIn.below {w w' : World} {b off cap : Nat} {R : List (Sg × List Wr)} (h : RunIn w b off cap R) (hx : Below w.heap.size w w') : RunIn w' b off cap R :=
  ⟨Nat.lt_of_lt_of_le h.hb hx.size, h.len, h.le, h.mx, fun j hj => (h.cells j hj).below h.hb hx, fun j hj => (h.opens j hj).below hx, h.okay, h.size⟩
def runX (R : List (Sg × List Wr)) : List (ByteArray × ByteArray) := R.map fun x => (x.1.name, layB x.1.safe x.2)
theorem runX_length (R : List (Sg × List Wr)) : (runX R).length = R.length := by simp [runX]
theorem runX_get (R : List (Sg × List Wr)) (i : Nat) (h : i < R.length) : (runX R)[i]'(by rw [runX_length]; exact h) = (R[i].1.name, layB R[i].1.safe R[i].2) := by simp [runX]
theorem dops_bk_any (D : List Sg) : dops (bk D D.length) = D.reverse.map fun s => dropOp s.name := by
  apply List.ext_getElem
  · simp [dops, bk_length]
  · intro k h1 h2
    have hk : k < D.length := by simpa using h2
    simp only [dops, bk, bkAt, List.getElem_map, List.getElem_range, List.getElem_reverse, List.map_map, Function.comp]
    rw [List.getElem?_eq_getElem (show D.length - 1 - k < D.length by omega)]
    rfl
theorem RunIn.drops {w : World} {b off cap : Nat} {R : List (Sg × List Wr)} (h : RunIn w b off cap R) (i : Nat) (hi : i ≤ R.length) :
    Calls Try.prog 34 #[.slice (some ⟨b, off + i * 4, none⟩) (R.length - i : Nat) (cap - i)] w fun e W' => ∃ v, e = .returned v ∧ OwnP W' w.heap.size v (((runX R).drop i).reverse.map fun y => dropOp y.1) ∧ Below w.heap.size w W' := by
  have hl : ((R.drop i).map Prod.fst).length = R.length - i := by simp
  have hd := drops_any ((R.drop i).map Prod.fst) (some ⟨b, off + i * 4, none⟩) (cap - i) w (by rw [hl]; have := h.len; omega) (.inr ⟨b, off + i * 4, cap - i, rfl, h.hb, fun j hj => by
    rw [hl] at hj
    have hc := h.cells (i + j) (by omega)
    have e : off + i * 4 + j * 4 = off + (i + j) * 4 := by omega
    rw [e]
    have e2 : ((R.drop i).map Prod.fst)[j]'(by rw [hl]; exact hj) = R[i + j].1 := by simp
    rw [e2]
    exact hc⟩)
  rw [dops_bk_any, hl] at hd
  have e3 : ((R.drop i).map Prod.fst).reverse.map (fun s => dropOp s.name) = ((runX R).drop i).reverse.map fun y => dropOp y.1 := by
    unfold runX
    rw [← List.map_drop, ← List.map_reverse, ← List.map_reverse, List.map_map, List.map_map]
    rfl
  rw [e3] at hd
  exact hd

end Go.Proofs.Ytkecjopojnllnaa
namespace Go.Proofs.Ytkecjopojnllnaa
open Go.RowKit Go.Deep Go.Joins

def ReadPost (X : List (ByteArray × ByteArray)) (w : World) (e : Ending) (w' : World) : Prop :=
  ∃ v u, e = .returned (.tuple #[v, u]) ∧ w'.ownsRow w.heap.size 9 1 v (readS X).1.length (strs (readS X).1) ∧ OwnP w' w.heap.size u (readS X).2 ∧ Below w.heap.size w w'
theorem reads_strs {w : World} {B n : Nat} {v : Value} {P : List ByteArray} (h : w.ownsRow B 9 1 v n (strs P)) : Reads w v 1 n (strs P) := reads_of_owns h
theorem strs_app (P Q : List ByteArray) : strs (P ++ Q) = strs P ++ strs Q := by unfold strs; rw [List.map_append]
theorem strs_cell (P : List ByteArray) : ∀ u ∈ strs P, u.oneCell' = true := by
  intro u hu
  unfold strs at hu
  obtain ⟨s, _, rfl⟩ := List.mem_map.1 hu
  rfl
theorem owns_base {w : World} {B B' n size : Nat} {e : TypeId} {v : Value} {xs : List Value} (h : w.ownsRow B e size v n xs) (hB : B' ≤ B) : w.ownsRow B' e size v n xs := by
  refine ⟨h.1, ?_⟩
  rcases h.2 with h2 | ⟨g, cap, cur, h1, h2, r⟩
  · exact .inl h2
  · exact .inr ⟨g, cap, cur, h1, Nat.le_trans hB h2, r⟩
theorem RunIn.drops_if {w : World} {b off cap : Nat} {R : List (Sg × List Wr)} (h : RunIn w b off cap R) (i : Nat) (hi : i ≤ R.length) :
    Calls Try.prog 34 #[.slice (if cap = i then some ⟨b, off, none⟩ else some ⟨b, off + i * 4, none⟩) (R.length - i : Nat) (cap - i)] w fun e W' => ∃ v, e = .returned v ∧ OwnP W' w.heap.size v (((runX R).drop i).reverse.map fun y => dropOp y.1) ∧ Below w.heap.size w W' := by
  by_cases hc : cap = i
  · have hl := h.le
    obtain rfl : i = R.length := by omega
    rw [if_pos hc]
    have hd := drops_any [] (some ⟨b, off, none⟩) (cap - R.length) w (by simp) (.inr ⟨b, off, _, rfl, h.hb, fun j hj => absurd hj (Nat.not_lt_zero _)⟩)
    rw [dops_bk_any] at hd
    rw [List.drop_of_length_le (by rw [runX_length]; exact Nat.le_refl _), show R.length - R.length = ([] : List Sg).length by simp]
    exact hd
  · rw [if_neg hc]
    exact h.drops i hi
theorem read_name {wo w2 w6 : World} {B n : Nat} {u : Value} {P : List Value} {s : Sg} (hown : wo.ownsRow B 9 1 u n P) (hb : Below (wo.alloc (.cells #[.int .i64 s.num, .string s.name, .string s.safe, s.ov] 84)).heap.size (wo.alloc (.cells #[.int .i64 s.num, .string s.name, .string s.safe, s.ov] 84)) w2) (hg : w2.grownBy w6 u.ownBlock) :
    w6.cell? ⟨wo.heap.size, 1, none⟩ = some (.string s.name) := by
  refine hg.cell ((hb.cell (p := ⟨wo.heap.size, 1, none⟩) (by simp)).trans (by simp)) (fun e => ?_)
  have := (hown.lt wo.heap.size e.symm).2
  omega
theorem cut_reads (W : World) (x : ByteArray) (n : Nat) : Reads (W.alloc (.cells #[.int .i64 3, .string x, .int .i64 (n : Int), .string ⟨#[]⟩] 55)) (.slice (some ⟨W.heap.size, 0, none⟩) 1 1) 4 1 (dopCells [cutOp x n]) := by
  refine ⟨rfl, .inr ⟨_, 1, rfl, Nat.le_refl _, by unfold maxLen; omega, fun j u hu => ?_⟩⟩
  rw [add_lit]
  rcases j with _ | _ | _ | _ | j
  · simpa [dopCells, cutOp] using hu
  · simpa [dopCells, cutOp] using hu
  · simpa [dopCells, cutOp] using hu
  · simpa [dopCells, cutOp] using hu
  · simp [dopCells, cutOp] at hu
theorem read_done {w wz u1 w7 : World} {X : List (ByteArray × ByteArray)} {P Q : List ByteArray} {D : List DOp} {v5 : Value} {x : ByteArray} {n c6 c7 : Nat} {p6 p7 : Option Addr} (hX : readS X = (P ++ Q, D ++ [cutOp x n])) (hwz : Below w.heap.size w wz) (hown : wz.ownsRow w.heap.size 9 1 (.slice p6 (P.length + Q.length) c6) (P.length + Q.length) (strs P ++ strs Q))
    (hb : Below wz.heap.size wz u1) (h5 : u1.ownsRow wz.heap.size 55 4 v5 D.length (dopCells D)) (hg : u1.grownBy w7 v5.ownBlock) (h7 : w7.ownsRow wz.heap.size 55 4 (.slice p7 (D.length + 1) c7) (D.length + 1) (dopCells D ++ dopCells [cutOp x n])) :
    ReadPost X w (.returned (.tuple #[.slice p6 (P.length + Q.length) c6, .slice p7 (D.length + 1) c7])) w7 := by
  have hz := below_grown hb h5 hg
  unfold ReadPost
  rw [hX]
  refine ⟨_, _, rfl, ?_, ⟨?_, ?_⟩, below_then hwz hz⟩
  · rw [strs_app, List.length_append]
    exact owns_below hown hz
  · rw [dopCells_append, List.length_append]
    exact owns_base h7 hwz.size
  · constructor
    · intro e; injection e with _ e2 _; omega
    · intro e; simp at e
set_option maxRecDepth 100000 in
set_option maxHeartbeats 4000000 in
theorem read_any (b off cap : Nat) (R : List (Sg × List Wr)) (w : World) (h : RunIn w b off cap R) : Calls Try.prog 35 #[.slice (some ⟨b, off, none⟩) R.length cap] w (ReadPost (runX R) w) := by
  obtain ⟨i0, hi, hz0, hz1, hz2⟩ := info_parts (show (Try.prog.info? 9).map (fun i => (i.zero, i.size, i.bytes)) = some (some (.string .empty), 1, 16) by kernel_rfl)
  obtain ⟨i1, hj, hy0, hy1, hy2⟩ := info_parts (show (Try.prog.info? 55).map (fun i => (i.zero, i.size, i.bytes)) = some (some (.agg #[.int .i64 0, .string .empty, .int .i64 0, .string .empty]), 4, 48) by kernel_rfl)
  have H := Lib.hid h
  have hlen := h.len
  have hXl := Lib.hid (runX_length R)
  clear h
  go_enter Try.func35, Try.ntmps35
  go_wp2_with fail
  go_loopw [13, 4] (fun k u wr => ∃ (i : Nat) (P : List ByteArray), i ≤ R.length ∧ k = .int .i64 (i : Int) ∧ Hid (ReadAt (runX R) P i) ∧ Hid (wr.ownsRow w.heap.size 9 1 u P.length (strs P)) ∧ Hid (Below w.heap.size w wr)) (fun k _ _ => R.length - (intOf k).toNat)
  case atStart => exact ⟨0, [], Nat.zero_le _, rfl, ReadAt.start _, World.ownsRow_nil _ _ _ _, Below.refl _ _⟩
  case round =>
    obtain ⟨i, P, hile, rfl, hat, hown, hbl⟩ := hrel
    obtain ⟨wo, hwo⟩ : ∃ wo, wo = wr := ⟨_, rfl⟩
    subst hwo
    by_cases hlt : i < R.length
    · have HR := Lib.hid (H.out.below hbl.out)
      obtain ⟨k0, k1, k2, k3⟩ := HR.out.cells i hlt
      have hbo := fun W (hW : Below wo.heap.size wo W) => bytesOf_any R[i].1 R[i].2 W ((HR.out.opens i hlt).below hW) (HR.out.okay i hlt)
      have hsz := HR.out.size i hlt
      have HX := Lib.hid (runX_get R i hlt)
      have HDR := Lib.hid (fun (W : World) (hW : Below wo.heap.size wo W) => (HR.out.below hW).drops (i + 1) hlt)
      have HLT := Lib.hid hlt
      have HGET := Lib.hid (show (runX R).drop (i + 1) = (runX R).drop (i + 1) from rfl)
      obtain ⟨s, hs⟩ : ∃ s, (R[i]'hlt).1 = s := ⟨_, rfl⟩
      obtain ⟨y, hy⟩ : ∃ y, layB s.safe (R[i]'hlt).2 = y := ⟨_, rfl⟩
      simp only [hs] at k0 k1 k2 k3 hbo hsz HX
      simp only [hy] at hbo hsz HX
      unfold Sg.val at hbo
      have HB := Lib.hid hbo
      have HS := Lib.hid (fun W => scan_any y W (by omega))
      have hsc := scanL_size y
      have HATN := Lib.hid (fun (h : ¬ (scanL y).2 < y.size) => hat.out.next (by rw [runX_length]; exact hlt) (by rw [HX.out]; exact h) (by rw [HX.out]; exact hsz))
      have HATS := Lib.hid (fun (h : (scanL y).2 < y.size) => hat.out.stop (by rw [runX_length]; exact hlt) (by rw [HX.out]; exact h))
      rw [HX.out] at HATN HATS
      dsimp only at HATN HATS
      have hPl := hat.out.2.1
      clear hs hy hbo
      obtain ⟨Q, hQ⟩ : ∃ Q, (scanL y).1 = Q := ⟨_, rfl⟩
      obtain ⟨n, hn⟩ : ∃ n, (scanL y).2 = n := ⟨_, rfl⟩
      unfold ScanPost at HS
      rw [hQ, hn] at HS
      rw [hQ] at hsc HATN HATS
      rw [hn] at hsc HATN HATS
      obtain ⟨hsc1, hsc2⟩ := hsc
      have HQ := Lib.hid (And.intro hsc2 (And.intro hPl hsz))
      clear hQ hn hsc2 hPl
      have z1 : (i : Int) < (R.length : Int) := by omega
      have z0 : (0 : Int) ≤ (i : Int) := by omega
      by_cases ht : n < y.size
      · have t1 : (n : Int) < (y.size : Int) := by omega
        have HT := Lib.hid ht
        clear ht
        go_upto_region 10 with (first
          | (go_at_call 56; (with_reducible refine (HB.out _ (nb_alloc (nb_refl _) _)).mono ?_); rintro e w1 ⟨rfl, hb1⟩; have HB1 := Lib.hid (below_then (nb_alloc (nb_refl wo) _) hb1); have HB1r := Lib.hid hb1; clear hb1)
          | (go_at_call 55; (with_reducible refine (HS.out _).mono ?_); rintro e w2 ⟨v2, rfl, hown2, hb2⟩; obtain ⟨p2, c2, rfl⟩ := owns_shape hown2; have HO2 := Lib.hid hown2; have HB2 := Lib.hid (below_then HB1.out hb2); have HB2r := Lib.hid (below_then HB1r.out hb2); clear hown2 hb2)
          | (at_builtin; refine wpList_append_reads rfl _ _ 27 rfl w.heap.size 9 i0 (.string .empty) 1 16 Try.underlying27 hi hz0 hz1 hz2 rfl (by decide) _ P.length (strs P) rfl (owns_below hown.out HB2.out) _ Q.length (strs Q) rfl (reads_strs HO2.out) (strs_cell _) (by have := HQ.out; unfold maxLen; omega) (by have := HQ.out; omega) (by have := hbl.out.size; have := HB2.out.size; omega) ?_; intro p6 c6 w6 hown6 hg6; have HOWN6 := hown6; have HG6 := Lib.hid hg6; have D1 := read_name hown.out HB2r.out hg6; have lw : wo.heap.size < w6.heap.size := lt_of_cell D1; clear hown6 hg6)
          | fail)
        have hwx := below_grown (below_then hbl.out HB2.out) (owns_below hown.out HB2.out) HG6.out
        have ho6 := HOWN6.out
        obtain ⟨D, hD⟩ : ∃ D, ((runX R).drop (i + 1)).reverse.map (fun y => dropOp y.1) = D := ⟨_, rfl⟩
        have hdl : D.length ≤ 1000000 := by rw [← hD, List.length_map, List.length_reverse, List.length_drop, runX_length]; omega
        rw [hD] at HDR HATS
        generalize hwz : w6.alloc (Obj.cells #[.int .i64 3, .string s.name, .int .i64 (n : Int), .string ⟨#[]⟩] 55) = wz
        have hz1 : Below w6.heap.size w6 wz := hwz ▸ below1 w6 _
        have HWZ := Lib.hid (below_then hwx hz1)
        have HO6 := Lib.hid (owns_below ho6 hz1)
        have y0 : wz.cell? ⟨w6.heap.size, 0, none⟩ = some (.int .i64 3) := by rw [← hwz]; simp
        have y1 : wz.cell? ⟨w6.heap.size, 1, none⟩ = some (.string s.name) := by rw [← hwz]; simp
        have y2 : wz.cell? ⟨w6.heap.size, 2, none⟩ = some (.int .i64 (n : Int)) := by rw [← hwz]; simp
        have y3 : wz.cell? ⟨w6.heap.size, 3, none⟩ = some (.string ⟨#[]⟩) := by rw [← hwz]; simp
        have HZ : Hid (∀ W, Below wz.heap.size wz W → W.cell? ⟨w6.heap.size, 0, none⟩ = some (.int .i64 3) ∧ W.cell? ⟨w6.heap.size, 1, none⟩ = some (.string s.name) ∧ W.cell? ⟨w6.heap.size, 2, none⟩ = some (.int .i64 (n : Int)) ∧ W.cell? ⟨w6.heap.size, 3, none⟩ = some (.string ⟨#[]⟩)) :=
          Lib.hid (fun W hW => ⟨below_cell hW y0, below_cell hW y1, below_cell hW y2, below_cell hW y3⟩)
        have hrun : RunIn wz b off cap R := H.out.below HWZ.out
        have HD2 : Hid (∀ W, Below wz.heap.size wz W → Calls Try.prog 34 #[.slice (if cap = i + 1 then some ⟨b, off, none⟩ else some ⟨b, off + (i + 1) * 4, none⟩) (R.length - (i + 1) : Nat) (cap - (i + 1))] W fun e W' => ∃ v, e = .returned v ∧ W'.ownsRow wz.heap.size 55 4 v D.length (dopCells D) ∧ Below wz.heap.size wz W' ∧ Below W.heap.size W W') := Lib.hid (fun W hW => by
          have hd := (hrun.below hW).drops_if (i + 1) HLT.out
          rw [hD] at hd
          exact hd.mono fun e W' ⟨v, he, ho, hb⟩ => ⟨v, he, owns_base ho.1 hW.size, below_then hW hb, hb⟩)
        obtain ⟨m, hm⟩ : ∃ m, i + 1 = m := ⟨_, rfl⟩
        rw [hm] at HD2
        have g1 : (i : Int) + 1 = (m : Int) := by omega
        have g2 : IntKind.i64.wrap ((i : Int) + 1) = (m : Int) := by rw [IntKind.wrap_i64]; omega
        have g3 : IntKind.i64.wrap (m : Int) = (m : Int) := by rw [IntKind.wrap_i64]; omega
        have g4 : (0 : Int) ≤ (m : Int) := by omega
        have g5 : (m : Int) ≤ (R.length : Int) := by omega
        have g6 : m ≤ R.length := by omega
        have HDL := Lib.hid hdl
        clear hm hwx ho6 hz1 hwz y0 y1 y2 y3 hrun HB1r HB2r HDR hdl hD
        by_cases hcm : cap = m
        · rw [if_pos hcm, show cap - m = 0 by omega] at HD2
          go_region_held3 (fun W => W.cell? ⟨w6.heap.size, 0, none⟩ = some (.int .i64 3) ∧ W.cell? ⟨w6.heap.size, 1, none⟩ = some (.string s.name) ∧ W.cell? ⟨w6.heap.size, 2, none⟩ = some (.int .i64 (n : Int)) ∧ W.cell? ⟨w6.heap.size, 3, none⟩ = some (.string ⟨#[]⟩))
            ((refine HZ.out _ ?_; (repeat (first | with_reducible exact N7 | with_reducible exact N5 | with_reducible exact nb_refl _ | with_reducible refine nb_drew ?_ | with_reducible refine nb_alloc ?_ _))))
            (first
              | (go_at_call 34; (with_reducible refine (HD2.out _ ?belp).mono ?_); (case belp => (repeat (first | with_reducible exact nb_refl _ | with_reducible refine nb_drew ?_ | with_reducible refine nb_alloc ?_ _))); rintro e u1 ⟨v5, rfl, hown5, N5, hb5⟩; obtain ⟨q5, c5, rfl⟩ := owns_shape hown5)
              | (refine step_append_reads rfl _ _ 28 rfl wz.heap.size 55 i1 (.agg #[.int .i64 0, .string .empty, .int .i64 0, .string .empty]) 4 48 Try.underlying28 hj hy0 hy1 hy2 rfl (by decide) (.slice q5 D.length c5) D.length (dopCells D) rfl ?ownp _ 1 (dopCells [cutOp s.name n]) rfl ?rdp (dop_one _) ?m1p ?m2p ?m3p ?_; (case ownp => first | with_reducible exact hown5 | with_reducible exact owns_below hown5 (below1 _ _)); (case rdp => first | exact cut_reads u1 _ _ | exact (cut_reads wz.drew _ _).below hb5); (case m1p => have := HDL.out; unfold maxLen; omega); (case m2p => have := HDL.out; omega); (case m3p => first | with_reducible exact N5.size | with_reducible exact (nb_alloc N5 _).size); intro p7 c7 w7 hO7 hG7; (first | (have N7 := by with_reducible exact below_grown N5 hown5 hG7) | (have N7 := by with_reducible exact below_grown (nb_alloc N5 _) (owns_below hown5 (below1 _ _)) hG7)))
              | fail)
          all_goals go_wp2_with fail
          all_goals go_ret2
          all_goals first | exact read_done (HATS.out HT.out) HWZ.out HO6.out N5 hown5 hG7 hO7.out | exact read_done (HATS.out HT.out) HWZ.out HO6.out (nb_alloc N5 _) (owns_below hown5 (below1 _ _)) hG7 hO7.out
        · rw [if_neg hcm] at HD2
          go_region_held3 (fun W => W.cell? ⟨w6.heap.size, 0, none⟩ = some (.int .i64 3) ∧ W.cell? ⟨w6.heap.size, 1, none⟩ = some (.string s.name) ∧ W.cell? ⟨w6.heap.size, 2, none⟩ = some (.int .i64 (n : Int)) ∧ W.cell? ⟨w6.heap.size, 3, none⟩ = some (.string ⟨#[]⟩))
            ((refine HZ.out _ ?_; (repeat (first | with_reducible exact N7 | with_reducible exact N5 | with_reducible exact nb_refl _ | with_reducible refine nb_drew ?_ | with_reducible refine nb_alloc ?_ _))))
            (first
              | (go_at_call 34; (with_reducible refine (HD2.out _ ?belq).mono ?_); (case belq => (repeat (first | with_reducible exact nb_refl _ | with_reducible refine nb_drew ?_ | with_reducible refine nb_alloc ?_ _))); rintro e u1 ⟨v5, rfl, hown5, N5, hb5⟩; obtain ⟨q5, c5, rfl⟩ := owns_shape hown5)
              | (refine step_append_reads rfl _ _ 28 rfl wz.heap.size 55 i1 (.agg #[.int .i64 0, .string .empty, .int .i64 0, .string .empty]) 4 48 Try.underlying28 hj hy0 hy1 hy2 rfl (by decide) (.slice q5 D.length c5) D.length (dopCells D) rfl ?ownq _ 1 (dopCells [cutOp s.name n]) rfl ?rdq (dop_one _) ?m1q ?m2q ?m3q ?_; (case ownq => first | with_reducible exact hown5 | with_reducible exact owns_below hown5 (below1 _ _)); (case rdq => first | exact cut_reads u1 _ _ | exact (cut_reads wz.drew _ _).below hb5); (case m1q => have := HDL.out; unfold maxLen; omega); (case m2q => have := HDL.out; omega); (case m3q => first | with_reducible exact N5.size | with_reducible exact (nb_alloc N5 _).size); intro p7 c7 w7 hO7 hG7; (first | (have N7 := by with_reducible exact below_grown N5 hown5 hG7) | (have N7 := by with_reducible exact below_grown (nb_alloc N5 _) (owns_below hown5 (below1 _ _)) hG7)))
              | fail)
          all_goals go_wp2_with fail
          all_goals go_ret2
          all_goals first | exact read_done (HATS.out HT.out) HWZ.out HO6.out N5 hown5 hG7 hO7.out | exact read_done (HATS.out HT.out) HWZ.out HO6.out (nb_alloc N5 _) (owns_below hown5 (below1 _ _)) hG7 hO7.out
      · have t1 : ¬ (n : Int) < (y.size : Int) := by omega
        have HT := Lib.hid ht
        clear ht
        go_wp2_with (first
          | (go_at_call 56; (with_reducible refine (HB.out _ (nb_alloc (nb_refl _) _)).mono ?_); rintro e w1 ⟨rfl, hb1⟩; have HB1 := Lib.hid (below_then (nb_alloc (nb_refl wo) _) hb1); have HB1r := Lib.hid hb1; clear hb1)
          | (go_at_call 55; (with_reducible refine (HS.out _).mono ?_); rintro e w2 ⟨v2, rfl, hown2, hb2⟩; obtain ⟨p2, c2, rfl⟩ := owns_shape hown2; have HO2 := Lib.hid hown2; have HB2 := Lib.hid (below_then HB1.out hb2); have HB2r := Lib.hid (below_then HB1r.out hb2); clear hown2 hb2)
          | (at_builtin; refine wpList_append_reads rfl _ _ 27 rfl w.heap.size 9 i0 (.string .empty) 1 16 Try.underlying27 hi hz0 hz1 hz2 rfl (by decide) _ P.length (strs P) rfl (owns_below hown.out HB2.out) _ Q.length (strs Q) rfl (reads_strs HO2.out) (strs_cell _) (by have := HQ.out; unfold maxLen; omega) (by have := HQ.out; omega) (by have := hbl.out.size; have := HB2.out.size; omega) ?_; intro p6 c6 w6 hown6 hg6; have HOWN6 := hown6; have HG6 := Lib.hid hg6; have D1 := read_name hown.out HB2r.out hg6; have lw : wo.heap.size < w6.heap.size := lt_of_cell D1; clear hown6 hg6)
          | fail)
        go_roundw
        case rel =>
          refine ⟨i + 1, P ++ Q, HLT.out, by go_num, Lib.hid (HATN.out HT.out), ?_, Lib.hid (below_grown (below_then hbl.out HB2.out) (owns_below hown.out HB2.out) HG6.out)⟩
          rw [strs_app, List.length_append]
          exact HOWN6
        case measure => simp [intOf]; omega
    · obtain rfl : i = R.length := by omega
      go_wp2_with fail
      go_ret2
      have hd := hat.out
      rw [← hXl.out] at hd
      unfold ReadPost
      rw [hd.done]
      exact ⟨_, _, rfl, hown.out, OwnP.nil _ _, hbl.out⟩

end Go.Proofs.Ytkecjopojnllnaa
namespace Go.Proofs.Ytkecjopojnllnaa
open Go.RowKit Go.Deep Go.Joins

/-- All bytes of the segment of a number. -/
def bytesN (p : ByteArray) (l : List Rw) (n : Nat) : ByteArray := match l.find? (fun r => numB p r.name == some n) with
  | some r => layB r.safe r.opens
  | none => ⟨#[]⟩
def runN (p : ByteArray) (l : List Rw) (L : List Nat) : List (ByteArray × ByteArray) := L.map fun n => (nameOf p n, bytesN p l n)
theorem runN_length (p : ByteArray) (l : List Rw) (L : List Nat) : (runN p l L).length = L.length := by simp [runN]
theorem runN_get (p : ByteArray) (l : List Rw) (L : List Nat) (i : Nat) (h : i < L.length) : (runN p l L)[i]'(by rw [runN_length]; exact h) = (nameOf p L[i], bytesN p l L[i]) := by simp [runN]
theorem bytesN_any (p : ByteArray) (l : List Rw) (v : Value) (n : Nat) (W : World) (h : hasN p l n) (hr : Reads W v 3 l.length (rowCells l)) (ho : Opens W l) (hm : l.length ≤ 1099511627776) (hS : Smalls l) :
    Calls Try.prog 39 #[.agg #[v], .string (nameOf p n)] W fun e w' => e = .returned (.tuple #[.string (bytesN p l n), .int .i64 0]) ∧ Below W.heap.size W w' := by
  obtain ⟨r, hr0, hn⟩ := h
  have hf : (l.find? (fun r => numB p r.name == some n)).isSome = true := by
    rw [List.find?_isSome]
    exact ⟨r, hr0, by simp [hn]⟩
  obtain ⟨r', hr'⟩ := Option.isSome_iff_exists.1 hf
  obtain ⟨j, hjl, hidx, hlj, _, _⟩ := find_name hr'
  obtain ⟨z1, z2, z3⟩ := hS l[j] (List.getElem_mem _)
  have hb := bytes2_some l v (nameOf p n) W j hjl hr ho hm z1 z2 z3 hidx
  rw [hlj] at hb
  have e : bytesN p l n = layB r'.safe r'.opens := by unfold bytesN; rw [hr']
  rw [e]
  exact hb
def dropsX (X : List (ByteArray × ByteArray)) : List DOp := X.reverse.map fun y => dropOp y.1
theorem dropsX_cons (x : ByteArray × ByteArray) (X : List (ByteArray × ByteArray)) : dropsX (x :: X) = dropsX X ++ [dropOp x.1] := by simp [dropsX]
theorem dropsX_length (X : List (ByteArray × ByteArray)) : (dropsX X).length = X.length := by simp [dropsX]
theorem dropsX_at (X : List (ByteArray × ByteArray)) (j : Nat) (h : j < X.length) : dropsX (X.drop j) = dropsX (X.drop (j + 1)) ++ [dropOp X[j].1] := by rw [List.drop_eq_getElem_cons h, dropsX_cons]

end Go.Proofs.Ytkecjopojnllnaa
namespace Go.Proofs.Ytkecjopojnllnaa
open Go.RowKit Go.Deep Go.Joins

/-- What the reference reads a run by. -/
structure RunN (w : World) (v : Value) (l : List Rw) (p : ByteArray) (g off : Nat) (L : List Nat) : Prop where
  hr : Reads w v 3 l.length (rowCells l)
  ho : Opens w l
  hm : l.length ≤ 1099511627776
  hS : Smalls l
  hg : g < w.heap.size
  len : L.length ≤ 1000000
  cells : ∀ j (hj : j < L.length), w.cell? ⟨g, off + j, none⟩ = some (.int .i64 (L[j] : Int))
  has : ∀ n ∈ L, hasN p l n
  size : ∀ n ∈ L, (bytesN p l n).size ≤ 2097152
theorem RunN.below {w w' : World} {v : Value} {l : List Rw} {p : ByteArray} {g off : Nat} {L : List Nat} (h : RunN w v l p g off L) (hb : Below w.heap.size w w') : RunN w' v l p g off L :=
  ⟨h.hr.below hb, fun r hr => (h.ho r hr).below hb, h.hm, h.hS, Nat.lt_of_lt_of_le h.hg hb.size, h.len, fun j hj => (hb.cell (p := ⟨g, off + j, none⟩) h.hg).trans (h.cells j hj), h.has, h.size⟩
theorem read3_done {w w6 wx : World} {X : List (ByteArray × ByteArray)} {P Q : List ByteArray} {D : List DOp} {v : Value} {B c6 : Nat} {p6 : Option Addr} (hX : readS X = (P ++ Q, D)) (hw6 : Below w.heap.size w w6) (hB : w.heap.size ≤ B) (hown : w6.ownsRow B 9 1 (.slice p6 (P.length + Q.length) c6) (P.length + Q.length) (strs P ++ strs Q))
    (hx : Below w6.heap.size w6 wx) (hp : OwnP wx w6.heap.size v D) : ReadPost X w (.returned (.tuple #[.slice p6 (P.length + Q.length) c6, v])) wx := by
  unfold ReadPost
  rw [hX]
  refine ⟨_, _, rfl, ?_, ⟨owns_base hp.1 hw6.size, hp.2⟩, below_then hw6 hx⟩
  rw [strs_app, List.length_append]
  exact owns_base (owns_below hown hx) hB
set_option maxRecDepth 100000 in
set_option maxHeartbeats 8000000 in
theorem read3_any (l : List Rw) (q : Option Addr) (dc : Nat) (p : ByteArray) (g off cap : Nat) (L : List Nat) (w : World) (hp : p.size ≤ 1000) (h : RunN w (.slice q l.length dc) l p g off L) : Calls Try.prog 41 #[.agg #[.slice q l.length dc], .string p, .slice (some ⟨g, off, none⟩) L.length cap] w (ReadPost (runN p l L) w) := by
  obtain ⟨i0, hi, hz0, hz1, hz2⟩ := info_parts (show (Try.prog.info? 9).map (fun i => (i.zero, i.size, i.bytes)) = some (some (.string .empty), 1, 16) by kernel_rfl)
  obtain ⟨i1, hj, hy0, hy1, hy2⟩ := info_parts (show (Try.prog.info? 55).map (fun i => (i.zero, i.size, i.bytes)) = some (some (.agg #[.int .i64 0, .string .empty, .int .i64 0, .string .empty]), 4, 48) by kernel_rfl)
  have H := Lib.hid h
  have hlen := h.len
  have hXl := Lib.hid (runN_length p l L)
  clear h
  go_enter Try.func41, Try.ntmps41
  go_wp2_with fail
  generalize hw0 : w.alloc (Obj.cells #[.slice q l.length dc] 24) = w0
  have hb0 : Below w.heap.size w w0 := hw0 ▸ below1 w _
  have d0 : w0.cell? ⟨w.heap.size, 0, none⟩ = some (.slice q l.length dc) := by rw [← hw0]; simp
  have lg := lt_of_cell d0
  have HD := Lib.hid d0
  have HB0 := Lib.hid hb0
  have H0 := Lib.hid (H.out.below hb0)
  clear hw0 hb0 d0
  go_loopw [10, 8, 9] (fun k u o wr => ∃ (i : Nat) (P : List ByteArray), i ≤ L.length ∧ k = .int .i64 (i : Int) ∧ o = .slice none 0 0 ∧ Hid (ReadAt (runN p l L) P i) ∧ Hid (wr.ownsRow w0.heap.size 9 1 u P.length (strs P)) ∧ Hid (Below w0.heap.size w0 wr)) (fun k _ _ _ => L.length - (intOf k).toNat)
  case atStart => exact ⟨0, [], Nat.zero_le _, rfl, rfl, ReadAt.start _, World.ownsRow_nil _ _ _ _, Below.refl _ _⟩
  case round =>
    obtain ⟨i, P, hile, rfl, rfl, hat, hown, hbl⟩ := hrel
    obtain ⟨wo, hwo⟩ : ∃ wo, wo = wr := ⟨_, rfl⟩
    subst hwo
    by_cases hlt : i < L.length
    · have HR := Lib.hid (H0.out.below hbl.out)
      have ck := HR.out.cells i hlt
      have hd := below_cell hbl.out HD.out
      have hn9 := hasN_le (HR.out.has L[i] (List.getElem_mem _))
      have hby := fun (W : World) (hW : Below wo.heap.size wo W) => bytesN_any p l _ L[i] W (HR.out.has L[i] (List.getElem_mem _)) (HR.out.hr.below hW) (fun r hr => (HR.out.ho r hr).below hW) HR.out.hm HR.out.hS
      have hsz := HR.out.size L[i] (List.getElem_mem _)
      have HX := Lib.hid (runN_get p l L i hlt)
      have HLT := Lib.hid hlt
      obtain ⟨n, hn⟩ : ∃ n, L[i]'hlt = n := ⟨_, rfl⟩
      simp only [hn] at ck hn9 hby hsz HX
      obtain ⟨y, hy⟩ : ∃ y, bytesN p l n = y := ⟨_, rfl⟩
      simp only [hy] at hby hsz HX
      have HB := Lib.hid hby
      have HS := Lib.hid (fun W => scan3_any y W (by omega))
      have hsc := scanL_size y
      have HATN := Lib.hid (fun (h : ¬ (scanL y).2 < y.size) => hat.out.next (by rw [runN_length]; exact hlt) (by rw [HX.out]; exact h) (by rw [HX.out]; exact hsz))
      have HATS := Lib.hid (fun (h : (scanL y).2 < y.size) => hat.out.stop (by rw [runN_length]; exact hlt) (by rw [HX.out]; exact h))
      rw [HX.out] at HATN HATS
      dsimp only at HATN HATS
      have hPl := hat.out.2.1
      have HLN := Lib.hid hn
      clear hn hy hby
      obtain ⟨Q, hQ⟩ : ∃ Q, (scanL y).1 = Q := ⟨_, rfl⟩
      obtain ⟨m, hm⟩ : ∃ m, (scanL y).2 = m := ⟨_, rfl⟩
      unfold ScanPost at HS
      rw [hQ, hm] at HS
      rw [hQ] at hsc HATN HATS
      rw [hm] at hsc HATN HATS
      obtain ⟨hsc1, hsc2⟩ := hsc
      have HQ := Lib.hid (And.intro hsc2 (And.intro hPl hsz))
      clear hQ hm hsc2 hPl
      have z1 : (i : Int) < (L.length : Int) := by omega
      have z0 : (0 : Int) ≤ (i : Int) := by omega
      have HCELL : Hid (∀ W, Below wo.heap.size wo W → W.cell? ⟨w.heap.size, 0, none⟩ = some (.slice q l.length dc) ∧ W.cell? ⟨g, off + i, none⟩ = some (.int .i64 (n : Int))) := Lib.hid (fun W hW => ⟨below_cell hW hd, below_cell hW ck⟩)
      go_upto_region 6 with fail
      go_cut [11] from 16 to 73 (fun x wx => x = .string y ∧ Hid (Below wo.heap.size wo wx))
      case first =>
        go_region_held3 (fun W => W.cell? ⟨w.heap.size, 0, none⟩ = some (.slice q l.length dc) ∧ W.cell? ⟨g, off + i, none⟩ = some (.int .i64 (n : Int)))
          ((refine HCELL.out _ ?_; (repeat (first | with_reducible exact N5 | with_reducible exact N4 | with_reducible exact nb_refl _ | with_reducible refine nb_drew ?_))))
          (first
            | (go_at_call 23; with_reducible refine (name3_any p n _ hp (by omega)).mono ?_; rintro e w4 ⟨rfl, hb4⟩; have N4 := below_then (nb_drew (nb_refl wo)) hb4)
            | (go_at_call 39; with_reducible refine (HB.out _ N4).mono ?_; rintro e w5 ⟨rfl, hb5⟩; have N5 := below_then N4 hb5)
            | fail)
        go_wp2_with fail
        go_meet
        exact ⟨rfl, Lib.hid N5⟩
      case rest =>
        obtain ⟨rfl, hbx⟩ := hcut
        by_cases ht : m < y.size
        · have t1 : (m : Int) < (y.size : Int) := by omega
          have HT := Lib.hid ht
          have e0 : IntKind.i64.wrap ((L.length : Int) - 1) = (L.length : Int) - 1 := IntWalk.i64_in _ (by omega)
          clear ht
          go_wp2_with (first
            | (go_at_call 40; (with_reducible refine (HS.out _).mono ?_); rintro e w2 ⟨v2, rfl, hown2, hb2⟩; obtain ⟨p2, c2, rfl⟩ := owns_shape hown2; have HO2 := Lib.hid hown2; have HB2 := Lib.hid (below_then hbx.out hb2); clear hown2 hb2)
            | (at_builtin; refine wpList_append_reads rfl _ _ 27 rfl w0.heap.size 9 i0 (.string .empty) 1 16 Try.underlying27 hi hz0 hz1 hz2 rfl (by decide) _ P.length (strs P) rfl (owns_below hown.out HB2.out) _ Q.length (strs Q) rfl (reads_strs HO2.out) (strs_cell _) (by have := HQ.out; unfold maxLen; omega) (by have := HQ.out; omega) (by have := hbl.out.size; have := HB2.out.size; omega) ?_; intro p6 c6 w6 hown6 hg6; have HOWN6 := hown6; have HG6 := Lib.hid hg6; clear hown6 hg6)
            | fail)
          have hwx := below_grown (below_then hbl.out HB2.out) (owns_below hown.out HB2.out) HG6.out
          have HWX := Lib.hid hwx
          clear hwx
          go_loopw [15, 9] (fun k u wi => ∃ t : Nat, i + 1 ≤ t ∧ t ≤ L.length ∧ k = .int .i64 ((t : Int) - 1) ∧ Hid (OwnP wi w6.heap.size u (dropsX ((runN p l L).drop t))) ∧ Hid (Below w6.heap.size w6 wi)) (fun k _ _ => (intOf k + 1).toNat)
          case atStart => exact ⟨L.length, HLT.out, Nat.le_refl _, rfl, Lib.hid (by rw [List.drop_of_length_le (by rw [runN_length]; exact Nat.le_refl _)]; exact OwnP.nil _ _), Below.refl _ _⟩
          case round =>
            obtain ⟨t, hit, htl, rfl, hp9, hbi⟩ := hrel
            obtain ⟨wi, hwi⟩ : ∃ wi, wi = wr := ⟨_, rfl⟩
            subst hwi
            have HRI := Lib.hid (H0.out.below (below_then HWX.out hbi.out))
            by_cases hlt2 : i + 1 < t
            · obtain ⟨j, rfl⟩ : ∃ j, t = j + 1 := ⟨t - 1, by omega⟩
              have e1 : ((j + 1 : Nat) : Int) - 1 = (j : Int) := by omega
              rw [e1]
              have hjl : j < L.length := by omega
              have cj := HRI.out.cells j hjl
              have hj9 := hasN_le (HRI.out.has L[j] (List.getElem_mem _))
              have hnx := dropsX_at (runN p l L) j (by rw [runN_length]; exact hjl)
              rw [runN_get p l L j hjl] at hnx
              have hpl := dropsX_length ((runN p l L).drop (j + 1))
              rw [List.length_drop, runN_length] at hpl
              obtain ⟨D, hD⟩ : ∃ D, dropsX ((runN p l L).drop (j + 1)) = D := ⟨_, rfl⟩
              obtain ⟨m', hm'⟩ : ∃ m', L[j]'hjl = m' := ⟨_, rfl⟩
              simp only [hm'] at cj hj9 hnx
              rw [hD] at hp9 hpl hnx
              have HNX := Lib.hid hnx
              have HPL := Lib.hid hpl
              have c1 : (0 : Int) ≤ (j : Int) := by omega
              have c2 : (i : Int) < (j : Int) := by omega
              have c3 : (j : Int) < (L.length : Int) := by omega
              have w3j : IntKind.i64.wrap ((j : Int) - 1) = (j : Int) - 1 := IntWalk.i64_in _ (by omega)
              have HJ := Lib.hid (And.intro hit (And.intro hlt2 hjl))
              clear hnx hpl hD hm' hit htl hlt2
              go_wp2_with (first
                | (go_at_call 23; (with_reducible refine (name3_any p m' _ hp (by omega)).mono ?_); rintro e w7 ⟨rfl, hb7⟩; have HB7 := Lib.hid hb7; clear hb7)
                | (at_builtin; refine wpList_append_own _ rfl _ _ 28 rfl w6.heap.size 55 i1 (.agg #[.int .i64 0, .string .empty, .int .i64 0, .string .empty]) 4 48 Try.underlying28 hj hy0 hy1 hy2 rfl (by decide) _ D.length (dopCells D) rfl ?a1 ⟨w7.heap.size, 0, none⟩ 1 1 [.int .i64 4, .string (nameOf p m'), .int .i64 0, .string ⟨#[]⟩] rfl rfl ?a2 ?a3 ?a4 ?a5 ?a6 ?_; rotate_right 1; intro v8 w8 hown8 hg8 hnil8; have HOWN8 := Lib.hid hown8; have HG8 := Lib.hid hg8; have HNIL8 := Lib.hid hnil8; clear hown8 hg8 hnil8)
                | fail)
              case a1 => exact owns_below (owns_below hp9.out.1 HB7.out) (below1 _ _)
              case a2 =>
                intro j u hu
                rw [add_lit, Nat.zero_add, cell_of_row _ _ _ _ 55 _ (heap_alloc_new w7 _)]
                simpa using hu
              case a3 =>
                intro u hu
                simp at hu
                rcases hu with rfl | rfl | rfl | rfl <;> rfl
              case a4 => rw [HPL.out]; unfold maxLen; omega
              case a5 => rw [HPL.out]; omega
              case a6 => have := hbi.out.size; have := HB7.out.size; simp; omega
              have o1 := owns_below (owns_below hp9.out.1 HB7.out) (below1 w7 (.cells #[.int .i64 4, .string (nameOf p m'), .int .i64 0, .string ⟨#[]⟩] 55))
              have bx1 := nb_alloc (below_then hbi.out HB7.out) (.cells #[.int .i64 4, .string (nameOf p m'), .int .i64 0, .string ⟨#[]⟩] 55)
              have bx2 := below_grown bx1 o1 HG8.out
              have HJ2 := HJ.out
              refine ⟨⟨j, by omega, by omega, rfl, ?_, Lib.hid bx2⟩, by simp [intOf]⟩
              refine Lib.hid ?_
              rw [HNX.out]
              exact own_more HOWN8.out (fun h => absurd (HNIL8.out.1 h) (by simp))
            · obtain rfl : t = i + 1 := by omega
              have e2 : ((i + 1 : Nat) : Int) - 1 = (i : Int) := by omega
              rw [e2]
              have ci := HRI.out.cells i HLT.out
              simp only [HLN.out] at ci
              have HDX := HATS.out HT.out
              have hpl := dropsX_length ((runN p l L).drop (i + 1))
              rw [List.length_drop, runN_length] at hpl
              change readS (runN p l L) = (P ++ Q, dropsX ((runN p l L).drop (i + 1)) ++ [cutOp (nameOf p n) m]) at HDX
              obtain ⟨D, hD⟩ : ∃ D, dropsX ((runN p l L).drop (i + 1)) = D := ⟨_, rfl⟩
              rw [hD] at hp9 hpl HDX
              have HDX2 := Lib.hid HDX
              have HPL := Lib.hid hpl
              clear hpl hD hit htl hlt2 HDX
              go_wp2_with (first
                | (go_at_call 23; (with_reducible refine (name3_any p n _ hp (by omega)).mono ?_); rintro e w7 ⟨rfl, hb7⟩; have HB7 := Lib.hid hb7; clear hb7)
                | (at_builtin; refine wpList_append_own _ rfl _ _ 28 rfl w6.heap.size 55 i1 (.agg #[.int .i64 0, .string .empty, .int .i64 0, .string .empty]) 4 48 Try.underlying28 hj hy0 hy1 hy2 rfl (by decide) _ D.length (dopCells D) rfl ?b1 ⟨w7.heap.size, 0, none⟩ 1 1 [.int .i64 3, .string (nameOf p n), .int .i64 (m : Int), .string ⟨#[]⟩] rfl rfl ?b2 ?b3 ?b4 ?b5 ?b6 ?_; rotate_right 1; intro v8 w8 hown8 hg8 hnil8; have HOWN8 := Lib.hid hown8; have HG8 := Lib.hid hg8; have HNIL8 := Lib.hid hnil8; clear hown8 hg8 hnil8)
                | fail)
              case b1 => exact owns_below (owns_below hp9.out.1 HB7.out) (below1 _ _)
              case b2 =>
                intro j u hu
                rw [add_lit, Nat.zero_add, cell_of_row _ _ _ _ 55 _ (heap_alloc_new w7 _)]
                simpa using hu
              case b3 =>
                intro u hu
                simp at hu
                rcases hu with rfl | rfl | rfl | rfl <;> rfl
              case b4 => rw [HPL.out]; unfold maxLen; omega
              case b5 => rw [HPL.out]; omega
              case b6 => have := hbi.out.size; have := HB7.out.size; simp; omega
              go_ret2
              have o1 := owns_below (owns_below hp9.out.1 HB7.out) (below1 w7 (.cells #[.int .i64 3, .string (nameOf p n), .int .i64 (m : Int), .string ⟨#[]⟩] 55))
              have bx1 := nb_alloc (below_then hbi.out HB7.out) (.cells #[.int .i64 3, .string (nameOf p n), .int .i64 (m : Int), .string ⟨#[]⟩] 55)
              exact read3_done HDX2.out (below_then HB0.out HWX.out) HB0.out.size HOWN6.out (below_grown bx1 o1 HG8.out) (own_more (o := cutOp (nameOf p n) m) HOWN8.out (fun h => absurd (HNIL8.out.1 h) (by simp)))
        · have t1 : ¬ (m : Int) < (y.size : Int) := by omega
          have HT := Lib.hid ht
          clear ht
          go_wp2_with (first
            | (go_at_call 40; (with_reducible refine (HS.out _).mono ?_); rintro e w2 ⟨v2, rfl, hown2, hb2⟩; obtain ⟨p2, c2, rfl⟩ := owns_shape hown2; have HO2 := Lib.hid hown2; have HB2 := Lib.hid (below_then hbx.out hb2); clear hown2 hb2)
            | (at_builtin; refine wpList_append_reads rfl _ _ 27 rfl w0.heap.size 9 i0 (.string .empty) 1 16 Try.underlying27 hi hz0 hz1 hz2 rfl (by decide) _ P.length (strs P) rfl (owns_below hown.out HB2.out) _ Q.length (strs Q) rfl (reads_strs HO2.out) (strs_cell _) (by have := HQ.out; unfold maxLen; omega) (by have := HQ.out; omega) (by have := hbl.out.size; have := HB2.out.size; omega) ?_; intro p6 c6 w6 hown6 hg6; have HOWN6 := hown6; have HG6 := Lib.hid hg6; clear hown6 hg6)
            | fail)
          go_roundw
          case rel =>
            refine ⟨i + 1, P ++ Q, HLT.out, by go_num, rfl, Lib.hid (HATN.out HT.out), ?_, Lib.hid (below_grown (below_then hbl.out HB2.out) (owns_below hown.out HB2.out) HG6.out)⟩
            rw [strs_app, List.length_append]
            exact HOWN6
          case measure => simp [intOf]; omega
    · obtain rfl : i = L.length := by omega
      go_wp2_with fail
      go_ret2
      have hd := hat.out
      rw [← hXl.out] at hd
      unfold ReadPost
      rw [hd.done]
      exact ⟨_, _, rfl, owns_base hown.out HB0.out.size, OwnP.nil _ _, below_then HB0.out hbl.out⟩

end Go.Proofs.Ytkecjopojnllnaa
namespace Go.Proofs.Ytkecjopojnllnaa
open Go.RowKit Go.Deep Go.Joins

/-- The segments from one place up to another. -/
def seg (X : List (ByteArray × ByteArray)) (a b : Nat) : List (ByteArray × ByteArray) := (X.drop a).take (b - a)
theorem seg_length (X : List (ByteArray × ByteArray)) {a b : Nat} (h : b ≤ X.length) : (seg X a b).length = b - a := by
  unfold seg
  rw [List.length_take, List.length_drop]
  omega
theorem readS_len (X : List (ByteArray × ByteArray)) : (readS X).2.length ≤ X.length := by
  induction X with
  | nil => simp [readS]
  | cons x X ih =>
    unfold readS
    split
    · simp
    · simp only [List.length_cons]; omega
/-- Does the segment at a place begin with a whole frame? -/
def headB (X : List (ByteArray × ByteArray)) (a : Nat) : Bool := match X[a]? with
  | some x => decide (0 < (scanL x.2).1.length)
  | none => false
def openF (f : Nat → Int) (X : List (ByteArray × ByteArray)) : Nat → Nat → Bool → List ByteArray → List DOp → List ByteArray × List DOp
  | 0, _, _, r, pl => (r, pl)
  | _ + 1, 0, _, r, pl => (r, pl)
  | u + 1, k + 1, fd, r, pl => if (fd || !headB X (runF f k)) = true then openF f X u (runF f k) fd r (pl ++ dropsX (seg X (runF f k) (k + 1)))
      else openF f X u (runF f k) true (readS (seg X (runF f k) (k + 1))).1 (pl ++ (readS (seg X (runF f k) (k + 1))).2)
/-- The records of the log, and what mends it. -/
def openS (f : Nat → Int) (X : List (ByteArray × ByteArray)) : List ByteArray × List DOp := openF f X X.length X.length false [] []
def OpenAt (f : Nat → Int) (X : List (ByteArray × ByteArray)) (k : Nat) (fd : Bool) (r : List ByteArray) (pl : List DOp) : Prop :=
  k ≤ X.length ∧ pl.length + k ≤ X.length ∧ ∃ u, k ≤ u ∧ openS f X = openF f X u k fd r pl
theorem OpenAt.start (f : Nat → Int) (X : List (ByteArray × ByteArray)) : OpenAt f X X.length false [] [] := ⟨Nat.le_refl _, by simp, X.length, Nat.le_refl _, rfl⟩
theorem OpenAt.done {f : Nat → Int} {X : List (ByteArray × ByteArray)} {fd : Bool} {r : List ByteArray} {pl : List DOp} (h : OpenAt f X 0 fd r pl) : openS f X = (r, pl) := by
  obtain ⟨_, _, u, _, h⟩ := h
  rw [h]
  cases u <;> rfl
theorem OpenAt.drop {f : Nat → Int} {X : List (ByteArray × ByteArray)} {k : Nat} {fd : Bool} {r : List ByteArray} {pl : List DOp} (h : OpenAt f X (k + 1) fd r pl) (hc : (fd || !headB X (runF f k)) = true) :
    OpenAt f X (runF f k) fd r (pl ++ dropsX (seg X (runF f k) (k + 1))) := by
  obtain ⟨h1, h2, u, h3, h4⟩ := h
  have hl := runF_le f k
  obtain ⟨v, rfl⟩ : ∃ v, u = v + 1 := ⟨u - 1, by omega⟩
  refine ⟨by omega, ?_, v, by omega, ?_⟩
  · rw [List.length_append, dropsX_length, seg_length X h1]; omega
  · rw [h4, openF, if_pos hc]
theorem OpenAt.read {f : Nat → Int} {X : List (ByteArray × ByteArray)} {k : Nat} {fd : Bool} {r : List ByteArray} {pl : List DOp} (h : OpenAt f X (k + 1) fd r pl) (hc : ¬ (fd || !headB X (runF f k)) = true) :
    OpenAt f X (runF f k) true (readS (seg X (runF f k) (k + 1))).1 (pl ++ (readS (seg X (runF f k) (k + 1))).2) := by
  obtain ⟨h1, h2, u, h3, h4⟩ := h
  have hl := runF_le f k
  obtain ⟨v, rfl⟩ : ∃ v, u = v + 1 := ⟨u - 1, by omega⟩
  refine ⟨by omega, ?_, v, by omega, ?_⟩
  · have := readS_len (seg X (runF f k) (k + 1))
    rw [seg_length X h1] at this
    rw [List.length_append]; omega
  · rw [h4, openF, if_neg hc]
theorem openF_congr {f g : Nat → Int} (X : List (ByteArray × ByteArray)) {n : Nat} (h : ∀ j, j < n → f j = g j) : ∀ (u k : Nat), k ≤ n → ∀ fd r pl, openF f X u k fd r pl = openF g X u k fd r pl
  | 0, _, _, _, _, _ => rfl
  | _ + 1, 0, _, _, _, _ => rfl
  | u + 1, k + 1, hk, fd, r, pl => by
    have e : runF f k = runF g k := runF_congr fun j hj => h j (by omega)
    have hl := runF_le g k
    rw [openF, openF, e, openF_congr X h u (runF g k) (by omega), openF_congr X h u (runF g k) (by omega)]
/-- A part of a run in memory. -/
def segR (R : List (Sg × List Wr)) (a b : Nat) : List (Sg × List Wr) := (R.drop a).take (b - a)
theorem segR_length (R : List (Sg × List Wr)) {a b : Nat} (h : b ≤ R.length) : (segR R a b).length = b - a := by
  unfold segR
  rw [List.length_take, List.length_drop]
  omega
theorem runX_seg (R : List (Sg × List Wr)) (a b : Nat) : runX (segR R a b) = seg (runX R) a b := by
  unfold runX segR seg
  rw [List.map_take, List.map_drop]
theorem segR_get (R : List (Sg × List Wr)) {a b : Nat} (h : b ≤ R.length) (j : Nat) (hj : j < b - a) : (segR R a b)[j]'(by rw [segR_length R h]; exact hj) = R[a + j]'(by omega) := by
  unfold segR
  rw [List.getElem_take, List.getElem_drop]
theorem RunIn.part {w : World} {b off cap : Nat} {R : List (Sg × List Wr)} (h : RunIn w b off cap R) (x y c : Nat) (hxy : x ≤ y) (hy : y ≤ R.length) (hc : y - x ≤ c) (hm : c ≤ maxLen) : RunIn w b (off + x * 4) c (segR R x y) := by
  have hl := segR_length R (a := x) hy
  refine ⟨h.hb, by rw [hl]; have := h.len; omega, by rw [hl]; exact hc, hm, ?_, ?_, ?_, ?_⟩
  · intro j hj
    rw [hl] at hj
    rw [segR_get R hy j hj, show off + x * 4 + j * 4 = off + (x + j) * 4 by omega]
    exact h.cells (x + j) (by omega)
  · intro j hj
    rw [hl] at hj
    rw [segR_get R hy j hj]
    exact h.opens (x + j) (by omega)
  · intro j hj
    rw [hl] at hj
    rw [segR_get R hy j hj]
    exact h.okay (x + j) (by omega)
  · intro j hj
    rw [hl] at hj
    rw [segR_get R hy j hj]
    exact h.size (x + j) (by omega)

end Go.Proofs.Ytkecjopojnllnaa
namespace Go.Proofs.Ytkecjopojnllnaa
open Go.RowKit Go.Deep Go.Joins

def numF (L : List Nat) (j : Nat) : Int := (((L[j]?).getD 0 : Nat) : Int)
theorem numF_at (L : List Nat) (j : Nat) (h : j < L.length) : numF L j = (L[j] : Int) := by
  unfold numF
  rw [List.getElem?_eq_getElem h]
  rfl
def rOf (p : ByteArray) (l : List Rw) (n : Nat) : Sg × List Wr := match l.find? (fun r => numB p r.name == some n) with
  | some r => (sgOf n r, r.opens)
  | none => (⟨0, ⟨#[]⟩, ⟨#[]⟩, none, 0, 0⟩, [])
theorem rOf_some {p : ByteArray} {l : List Rw} {n : Nat} {r : Rw} (h : l.find? (fun r => numB p r.name == some n) = some r) : rOf p l n = (sgOf n r, r.opens) := by unfold rOf; rw [h]
theorem has_find {p : ByteArray} {l : List Rw} {n : Nat} (h : hasN p l n) : ∃ r, l.find? (fun r => numB p r.name == some n) = some r := by
  obtain ⟨r, hr, hn⟩ := h
  have hf : (l.find? (fun r => numB p r.name == some n)).isSome = true := by
    rw [List.find?_isSome]
    exact ⟨r, hr, by simp [hn]⟩
  exact Option.isSome_iff_exists.1 hf
theorem runX_rOf (p : ByteArray) (l : List Rw) (L : List Nat) (h : ∀ n ∈ L, hasN p l n) : runX (L.map (rOf p l)) = runN p l L := by
  unfold runX runN
  rw [List.map_map]
  apply List.map_congr_left
  intro n hn
  obtain ⟨r, hf⟩ := has_find (h n hn)
  obtain ⟨_, _, _, _, hname, _⟩ := find_name hf
  simp only [Function.comp, rOf_some hf]
  unfold bytesN
  rw [hf]
  show (r.name, layB r.safe r.opens) = _
  rw [hname]
/-- No segment is greater than this. -/
def Sized (l : List Rw) : Prop := ∀ r ∈ l, (layB r.safe r.opens).size ≤ 2097152
theorem runIn_of {p : ByteArray} {l : List Rw} {L : List Nat} {D : List Sg} {v : Value} {w : World} (hr : Reads w v 4 D.length (segCells D)) (hS : SegsOf p l L D) (h0 : 0 < D.length) (hl : D.length ≤ 1000000) (ho : Opens w l) (hsm : Smalls l) (hz : Sized l) :
    ∃ b off cap, v = .slice (some ⟨b, off, none⟩) D.length cap ∧ RunIn w b off cap (L.map (rOf p l)) ∧ ∀ j, j < L.length → w.cell? ⟨b, off + j * 4, none⟩ = some (.int .i64 (numF L j)) := by
  obtain ⟨b, off, cap, hv, h1, h2, hb, _⟩ := hr.seg 0 h0
  have hc : ∀ j (hj : j < D.length), CellsAt w b (off + j * 4) D[j] := by
    intro j hj
    obtain ⟨b', off', cap', hv', _, _, _, x⟩ := hr.seg j hj
    rw [hv] at hv'
    obtain ⟨⟨rfl, rfl⟩, _⟩ : (b = b' ∧ off = off') ∧ cap = cap' := by simpa using hv'
    exact x
  have hL : (L.map (rOf p l)).length = D.length := by rw [List.length_map, hS.1]
  have hget : ∀ j (hj : j < D.length), ∃ r, r ∈ l ∧ D[j] = sgOf (L[j]'(by rw [← hS.1]; exact hj)) r ∧ (L.map (rOf p l))[j]'(by rw [hL]; exact hj) = (D[j], r.opens) := by
    intro j hj
    have hjL : j < L.length := by rw [← hS.1]; exact hj
    obtain ⟨r, hf, hd⟩ := hS.2 j hjL
    rw [List.getElem?_eq_getElem hj] at hd
    have hd2 := Option.some.inj hd
    refine ⟨r, List.mem_of_find?_eq_some hf, hd2, ?_⟩
    rw [List.getElem_map, rOf_some hf, hd2]
  refine ⟨b, off, cap, hv, ⟨hb, by omega, by omega, h2, ?_, ?_, ?_, ?_⟩, ?_⟩
  · intro j hj
    obtain ⟨r, _, _, h⟩ := hget j (by omega)
    rw [h]
    exact hc j (by omega)
  · intro j hj
    obtain ⟨r, hm, hd, h⟩ := hget j (by omega)
    rw [h]
    dsimp only
    rw [hd, sgOf_ov (ho r hm)]
    exact ho r hm
  · intro j hj
    obtain ⟨r, hm, hd, h⟩ := hget j (by omega)
    rw [h]
    intro x hx
    rw [List.mem_singleton] at hx
    subst hx
    rw [hd]
    exact hsm.okay r hm
  · intro j hj
    obtain ⟨r, hm, hd, h⟩ := hget j (by omega)
    rw [h]
    dsimp only
    rw [hd]
    exact hz r hm
  · intro j hj
    have hjD : j < D.length := by rw [hS.1]; exact hj
    obtain ⟨r, _, hd, _⟩ := hget j hjD
    have := (hc j hjD).1
    rw [hd] at this
    rw [numF_at L j hj]
    exact this
/-- The records and the plan of the log of this prefix. -/
def OpenIs (p : ByteArray) (l : List Rw) (r : List ByteArray) (pl : List DOp) : Prop := ∃ L, StrictN L ∧ (∀ n, n ∈ L ↔ hasN p l n) ∧ openS (numF L) (runN p l L) = (r, pl)
def OpenPost (p : ByteArray) (l : List Rw) (w : World) (e : Ending) (w' : World) : Prop :=
  ∃ v u r pl, e = .returned (.tuple #[v, u, .int .i64 0]) ∧ OpenIs p l r pl ∧ Reads w' v 1 r.length (strs r) ∧ Reads w' u 4 pl.length (dopCells pl) ∧ Below w.heap.size w w'

end Go.Proofs.Ytkecjopojnllnaa
namespace Go.Proofs.Ytkecjopojnllnaa
open Go.RowKit Go.Deep Go.Joins

theorem head_of {R : List (Sg × List Wr)} {a : Nat} (h : a < R.length) : headB (runX R) a = decide (0 < (scanL (layB R[a].1.safe R[a].2)).1.length) := by
  unfold headB
  rw [List.getElem?_eq_getElem (by rw [runX_length]; exact h), runX_get R a h]
/-- What the walk of a round wants. -/
structure OpenIn (w2 : World) (b off cap : Nat) (R : List (Sg × List Wr)) (f : Nat → Int) : Prop where
  run : RunIn w2 b off cap R
  nums : ∀ j, j < R.length → w2.cell? ⟨b, off + j * 4, none⟩ = some (.int .i64 (f j))
  small : ∀ j, j < R.length → 0 ≤ f j ∧ f j ≤ 999999
theorem OpenIn.last {w2 : World} {b off cap : Nat} {R : List (Sg × List Wr)} {f : Nat → Int} (h : OpenIn w2 b off cap R f) (k : Nat) (hk : k + 1 ≤ R.length) (W : World) (hW : Below w2.heap.size w2 W) :
    Calls Try.prog 32 #[.slice (some ⟨b, off, none⟩) (k + 1 : Nat) cap] W fun e w' => e = .returned (.slice (some ⟨b, off + runF f k * 4, none⟩) (k + 1 - runF f k : Nat) (cap - runF f k)) ∧ Below W.heap.size W w' :=
  lastRun_any f k b off cap W (by have := h.run.len; omega) (Nat.lt_of_lt_of_le h.run.hb hW.size) (fun j hj => (hW.cell (p := ⟨b, off + j * 4, none⟩) h.run.hb).trans (h.nums j (by omega))) (fun j hj => h.small j (by omega)) (by have := h.run.le; omega)
theorem OpenIn.begins {w2 : World} {b off cap : Nat} {R : List (Sg × List Wr)} {f : Nat → Int} (h : OpenIn w2 b off cap R f) (a n c : Nat) (ha : a < R.length) (hn : 0 < n) (W : World) (hW : Below w2.heap.size w2 W) :
    Calls Try.prog 33 #[.slice (some ⟨b, off + a * 4, none⟩) n c] W fun e w' => e = .returned (.bool (headB (runX R) a)) ∧ Below W.heap.size W w' := by
  have hr := h.run.below hW
  rw [head_of ha]
  exact begins_any R[a].1 R[a].2 b (off + a * 4) n c W hn (hr.cells a ha) (hr.opens a ha) (hr.okay a ha) (by have := hr.size a ha; omega)
theorem OpenIn.drops {w2 : World} {b off cap : Nat} {R : List (Sg × List Wr)} {f : Nat → Int} (h : OpenIn w2 b off cap R f) (x y : Nat) (hxy : x ≤ y) (hy : y ≤ R.length) (W : World) (hW : Below w2.heap.size w2 W) :
    Calls Try.prog 34 #[.slice (some ⟨b, off + x * 4, none⟩) (y - x : Nat) (cap - x)] W fun e W' => ∃ v, e = .returned v ∧ OwnP W' W.heap.size v (dropsX (seg (runX R) x y)) ∧ Below W.heap.size W W' := by
  have hr := (h.run.below hW).part x y (cap - x) hxy hy (by have := h.run.le; omega) (by have := h.run.mx; omega)
  have hd := hr.drops 0 (Nat.zero_le _)
  rw [segR_length R hy, runX_seg, List.drop_zero, Nat.zero_mul, Nat.add_zero, Nat.sub_zero, Nat.sub_zero] at hd
  exact hd
theorem OpenIn.read {w2 : World} {b off cap : Nat} {R : List (Sg × List Wr)} {f : Nat → Int} (h : OpenIn w2 b off cap R f) (x y : Nat) (hxy : x ≤ y) (hy : y ≤ R.length) (W : World) (hW : Below w2.heap.size w2 W) :
    Calls Try.prog 35 #[.slice (some ⟨b, off + x * 4, none⟩) (y - x : Nat) (cap - x)] W (ReadPost (seg (runX R) x y) W) := by
  have hr := (h.run.below hW).part x y (cap - x) hxy hy (by have := h.run.le; omega) (by have := h.run.mx; omega)
  have hd := read_any b (off + x * 4) (cap - x) _ W hr
  rw [segR_length R hy, runX_seg] at hd
  exact hd

end Go.Proofs.Ytkecjopojnllnaa
namespace Go.Proofs.Ytkecjopojnllnaa
open Go.RowKit Go.Deep Go.Joins

set_option maxRecDepth 100000 in
set_option maxHeartbeats 8000000 in
theorem open_yes (l : List Rw) (q : Option Addr) (dc : Nat) (p : ByteArray) (w : World) (hp : prefB p = true) (hr : Reads w (.slice q l.length dc) 3 l.length (rowCells l)) (ho : Opens w l) (hsm : Smalls l) (hm : l.length ≤ 1099511627776) (hz : Sized l) :
    Calls Try.prog 11 #[.agg #[.slice q l.length dc], .string p] w (OpenPost p l w) := by
  obtain ⟨i1, hj, hy0, hy1, hy2⟩ := info_parts (show (Try.prog.info? 55).map (fun i => (i.zero, i.size, i.bytes)) = some (some (.agg #[.int .i64 0, .string .empty, .int .i64 0, .string .empty]), 4, 48) by kernel_rfl)
  have hp8 := pref_size hp
  obtain ⟨L, hL, hLm, hLl⟩ := nums_exist p l
  have HL := Lib.hid hL
  have HLM := Lib.hid hLm
  have HLL := Lib.hid hLl
  have HSG := Lib.hid (fun (W : World) (hb : Below w.heap.size w W) => segments_any l _ p W (hr.below hb) (fun r hr => (ho r hr).below hb) (by omega) hm)
  have HO := Lib.hid ho
  have HSM := Lib.hid hsm
  have HZ := Lib.hid hz
  clear hL hLm hLl hr ho hsm hz
  go_enter Try.func11, Try.ntmps11
  go_wp2_with fail
  generalize hw0 : w.alloc (Obj.cells #[.slice q l.length dc] 24) = w0
  have HB0 : Hid (Below w.heap.size w w0) := Lib.hid (hw0 ▸ below1 w _)
  have d1 : w0.cell? ⟨w.heap.size, 0, none⟩ = some (.slice q l.length dc) := by rw [← hw0]; simp
  clear hw0
  go_wp2_with (first
    | (go_at_call 30; (with_reducible refine (mayBe_any p _).mono ?_); rintro e w1 ⟨rfl, rfl⟩; rw [hp])
    | (go_at_call 31; (with_reducible refine (HSG.out _ HB0.out).mono ?_); rintro e w2 ⟨v2, D, Z0, rfl, hrow, hD, hRi, hKe, hb2⟩; obtain ⟨q2, c2, rfl⟩ := owns_shape hrow; have HS := Lib.hid (segs_same hD hRi hKe HL.out HLM.out); have HROW := Lib.hid hrow; have HB2 := Lib.hid (below_then HB0.out hb2); clear hrow hD hRi hKe hb2)
    | fail)
  have hDl : D.length = L.length := HS.out.1
  rcases Nat.eq_zero_or_pos D.length with h0 | h0
  · have hL0 : L = [] := List.eq_nil_of_length_eq_zero (by omega)
    have HE : Hid (OpenIs p l [] []) := Lib.hid ⟨L, HL.out, HLM.out, by rw [hL0]; rfl⟩
    rw [h0]
    clear hDl hL0
    go_loopw [10, 9, 7, 8] (fun a b c d wr => a = .slice q2 0 c2 ∧ b = .bool false ∧ c = .slice none 0 0 ∧ d = .slice none 0 0 ∧ Hid (Below w2.heap.size w2 wr)) (fun a _ _ _ _ => lenV a)
    case atStart => exact ⟨rfl, rfl, rfl, rfl, Below.refl _ _⟩
    case round =>
      obtain ⟨rfl, rfl, rfl, rfl, hbl⟩ := hrel
      go_wp2_with fail
      go_returns
      exact ⟨_, _, [], [], rfl, HE.out, reads_nil _ _, reads_nil _ _, below_then HB2.out hbl.out⟩
  · obtain ⟨b, off, cap, hv, hrun, hnum⟩ := runIn_of (reads_of_owns HROW.out) HS.out h0 (by have := HLL.out; omega) (fun r hr => (HO.out r hr).below HB2.out) HSM.out HZ.out
    obtain ⟨rfl, rfl⟩ : q2 = some ⟨b, off, none⟩ ∧ c2 = cap := by simpa using hv
    have hX := runX_rOf p l L (fun n hn => (HLM.out n).1 hn)
    have hRl : (L.map (rOf p l)).length = D.length := by rw [List.length_map, hDl]
    obtain ⟨f, hf⟩ : ∃ f, numF L = f := ⟨_, rfl⟩
    have hsmall : ∀ j, j < L.length → 0 ≤ numF L j ∧ numF L j ≤ 999999 := by
      intro j hj
      rw [numF_at L j hj]
      have := hasN_le ((HLM.out L[j]).1 (List.getElem_mem _))
      omega
    obtain ⟨R, hR⟩ : ∃ R, L.map (rOf p l) = R := ⟨_, rfl⟩
    rw [hR] at hX hRl hrun
    rw [hf] at hnum hsmall
    have HIN : Hid (OpenIn w2 b off c2 R f) := Lib.hid ⟨hrun, fun j hj => hnum j (by omega), fun j hj => hsmall j (by omega)⟩
    have HIS : Hid (∀ r pl, openS f (runX R) = (r, pl) → OpenIs p l r pl) := Lib.hid (fun r pl h => ⟨L, HL.out, HLM.out, by rw [hf, ← hX]; exact h⟩)
    have HLEN : Hid (R.length ≤ 1000000) := Lib.hid (by have := HLL.out; omega)
    have HCAP := Lib.hid hrun.le
    have HMX := Lib.hid hrun.mx
    obtain ⟨N, hN⟩ : ∃ N, D.length = N := ⟨_, rfl⟩
    rw [hN] at hRl
    rw [hN]
    have HRL := Lib.hid hRl
    have HST : Hid (OpenAt f (runX R) N false [] []) := Lib.hid (by have h := OpenAt.start f (runX R); rw [runX_length, hRl] at h; exact h)
    clear hv hrun hnum hX hRl hf hsmall hR hN hDl h0
    go_loopw [10, 9, 7, 8] (fun s fdv rv pv wr => ∃ (k : Nat) (fd : Bool) (r : List ByteArray) (pl : List DOp), k ≤ N ∧ s = .slice (some ⟨b, off, none⟩) k c2 ∧ fdv = .bool fd ∧ Hid (OpenAt f (runX R) k fd r pl) ∧ Hid (wr.ownsRow w2.heap.size 9 1 rv r.length (strs r)) ∧ Hid (wr.ownsRow w2.heap.size 55 4 pv pl.length (dopCells pl)) ∧ Hid (Below w2.heap.size w2 wr)) (fun s _ _ _ _ => lenV s)
    case atStart => exact ⟨N, false, [], [], Nat.le_refl _, rfl, rfl, HST, World.ownsRow_nil _ _ _ _, World.ownsRow_nil _ _ _ _, Below.refl _ _⟩
    case round =>
      obtain ⟨k, fd, r, pl, hk, rfl, rfl, hat, hrv, hpl, hbl⟩ := hrel
      obtain ⟨wo, hwo⟩ : ∃ wo, wo = wr := ⟨_, rfl⟩
      subst hwo
      rcases k with _ | k
      · go_wp2_with fail
        go_returns
        exact ⟨_, _, r, pl, rfl, HIS.out r pl hat.out.done, reads_of_owns hrv.out, reads_of_owns hpl.out, below_then HB2.out hbl.out⟩
      · have HLR := Lib.hid (HIN.out.last k (by have := HRL.out; omega))
        have HDROP := Lib.hid (@OpenAt.drop f (runX R) k fd r pl hat.out)
        have HREAD := Lib.hid (@OpenAt.read f (runX R) k fd r pl hat.out)
        have hle := runF_le f k
        obtain ⟨fr, hfr⟩ : ∃ fr, runF f k = fr := ⟨_, rfl⟩
        obtain ⟨m, hm'⟩ : ∃ m, k + 1 = m := ⟨_, rfl⟩
        rw [hfr] at hle HLR HDROP HREAD
        rw [hm'] at hk HLR HDROP HREAD hat
        rw [hm']
        have hmR : m ≤ R.length := by have := HRL.out; omega
        have hfm : fr ≤ m := by omega
        obtain ⟨d, hd⟩ : ∃ d, m - fr = d := ⟨_, rfl⟩
        rw [hd] at HLR
        have HBG := Lib.hid (HIN.out.begins fr d (c2 - fr) (by omega) (by omega))
        have hc2 := HCAP.out
        have hmx := HMX.out
        unfold maxLen at hmx
        have g0 : (0 : Int) < (m : Int) := by omega
        have g0n : 0 < m := by omega
        have g1 : (m : Int) - (d : Int) = (fr : Int) := by omega
        have g2 : (0 : Int) ≤ (fr : Int) := by omega
        have g3 : (fr : Int) ≤ (c2 : Int) := by omega
        have g4 : fr ≤ c2 := by omega
        have HFR : Hid (fr ≤ N) := Lib.hid (by omega)
        have HFM : Hid (fr < m) := Lib.hid (by omega)
        have g5 : fr ≤ 1000000 := by have := HLEN.out; omega
        clear hle hfr hm' hc2 hmx hk
        cases fd with
        | true =>
          obtain ⟨Z, hZ⟩ : ∃ Z, dropsX (seg (runX R) fr m) = Z := ⟨_, rfl⟩
          have hZl : pl.length + Z.length ≤ 1000000 := by rw [← hZ, dropsX_length, seg_length _ (by rw [runX_length]; exact hmR)]; have := hat.out.2.1; rw [runX_length] at this; have := HLEN.out; omega
          have HOD := Lib.hid (show OpenAt f (runX R) fr true r (pl ++ Z) from by rw [← hZ]; exact HDROP.out (by simp))
          have HDR := Lib.hid (fun W hW => by have h := HIN.out.drops fr m hfm hmR W hW; rw [hZ, hd] at h; exact h)
          have HPB := Lib.hid hZl
          clear hZ hZl HDROP HREAD hd hfm hmR
          go_wp2_with (first
            | (go_at_call 32; (with_reducible refine (HLR.out _ hbl.out).mono ?_); rintro e w3 ⟨rfl, hb3⟩; have HB3 := Lib.hid (below_then hbl.out hb3); have HB3r := Lib.hid hb3; clear hb3)
            | (go_at_call 34; (with_reducible refine (HDR.out _ HB3.out).mono ?_); rintro e w5 ⟨v5, rfl, hown5, hb5⟩; obtain ⟨q5, c5, rfl⟩ := owns_shape hown5.1; have HO5 := Lib.hid hown5; have HB5 := Lib.hid (below_then HB3.out hb5); have HB5r := Lib.hid (below_then HB3r.out hb5); clear hown5 hb5)
            | (at_builtin; refine wpList_append_reads rfl _ _ 28 rfl w2.heap.size 55 i1 (.agg #[.int .i64 0, .string .empty, .int .i64 0, .string .empty]) 4 48 Try.underlying28 hj hy0 hy1 hy2 rfl (by decide) _ pl.length (dopCells pl) rfl (owns_below hpl.out HB5r.out) _ Z.length (dopCells Z) rfl HO5.out.reads (dop_one _) (by have := HPB.out; unfold maxLen; omega) (by have := HPB.out; omega) HB5.out.size ?_; intro p6 c6 w6 hown6 hg6; have HOWN6 := hown6; have HG6 := Lib.hid hg6; clear hown6 hg6)
            | fail)
          have by2 := below_grown HB5.out (owns_below hpl.out HB5r.out) HG6.out
          have ho6 := HOWN6.out
          rw [← dopCells_append, ← List.length_append] at ho6
          have hrv2 := wider (owns_below hrv.out HB5r.out) (owns_below hpl.out HB5r.out) (by decide) HG6.out
          go_roundw
          case rel => exact ⟨fr, true, r, pl ++ Z, HFR.out, rfl, rfl, HOD, Lib.hid hrv2, Lib.hid (by rw [List.length_append] at ho6 ⊢; exact ho6), Lib.hid by2⟩
          case measure => have := HFM.out; simp [lenV]; omega
        | false =>
          by_cases hhd : headB (runX R) fr = true
          · rw [hhd] at HBG
            obtain ⟨Z, hZ⟩ : ∃ Z, (readS (seg (runX R) fr m)).2 = Z := ⟨_, rfl⟩
            obtain ⟨Y, hY⟩ : ∃ Y, (readS (seg (runX R) fr m)).1 = Y := ⟨_, rfl⟩
            have hZl : pl.length + Z.length ≤ 1000000 := by rw [← hZ]; have := readS_len (seg (runX R) fr m); rw [seg_length _ (by rw [runX_length]; exact hmR)] at this; have h2 := hat.out.2.1; rw [runX_length] at h2; have := HLEN.out; omega
            have HOD := Lib.hid (show OpenAt f (runX R) fr true Y (pl ++ Z) from by rw [← hZ, ← hY]; exact HREAD.out (by rw [hhd]; simp))
            have HRD := Lib.hid (fun W hW => by have h := HIN.out.read fr m hfm hmR W hW; unfold ReadPost at h; rw [hZ, hY, hd] at h; exact h)
            have HPB := Lib.hid hZl
            clear hZ hZl HDROP HREAD hd hfm hmR hY hhd
            go_wp2_with (first
              | (go_at_call 32; (with_reducible refine (HLR.out _ hbl.out).mono ?_); rintro e w3 ⟨rfl, hb3⟩; have HB3 := Lib.hid (below_then hbl.out hb3); have HB3r := Lib.hid hb3; clear hb3)
              | (go_at_call 33; (with_reducible refine (HBG.out _ HB3.out).mono ?_); rintro e w4 ⟨rfl, hb4⟩; have HB4 := Lib.hid (below_then HB3.out hb4); have HB4r := Lib.hid (below_then HB3r.out hb4); clear hb4)
              | (go_at_call 35; (with_reducible refine (HRD.out _ HB4.out).mono ?_); rintro e w5 ⟨v4, v5, rfl, hown4, hown5, hb5⟩; obtain ⟨q4, c4, rfl⟩ := owns_shape hown4; obtain ⟨q5, c5, rfl⟩ := owns_shape hown5.1; have HO4 := Lib.hid (owns_base hown4 HB4.out.size); have HO5 := Lib.hid hown5; have HB5 := Lib.hid (below_then HB4.out hb5); have HB5r := Lib.hid (below_then HB4r.out hb5); clear hown4 hown5 hb5)
              | (at_builtin; refine wpList_append_reads rfl _ _ 28 rfl w2.heap.size 55 i1 (.agg #[.int .i64 0, .string .empty, .int .i64 0, .string .empty]) 4 48 Try.underlying28 hj hy0 hy1 hy2 rfl (by decide) _ pl.length (dopCells pl) rfl (owns_below hpl.out HB5r.out) _ Z.length (dopCells Z) rfl HO5.out.reads (dop_one _) (by have := HPB.out; unfold maxLen; omega) (by have := HPB.out; omega) HB5.out.size ?_; intro p6 c6 w6 hown6 hg6; have HOWN6 := hown6; have HG6 := Lib.hid hg6; clear hown6 hg6)
              | fail)
            have by2 := below_grown HB5.out (owns_below hpl.out HB5r.out) HG6.out
            have ho6 := HOWN6.out
            rw [← dopCells_append, ← List.length_append] at ho6
            have hrv2 := wider (HO4.out) (owns_below hpl.out HB5r.out) (by decide) HG6.out
            go_roundw
            case rel => exact ⟨fr, true, Y, pl ++ Z, HFR.out, rfl, rfl, HOD, Lib.hid hrv2, Lib.hid (by rw [List.length_append] at ho6 ⊢; exact ho6), Lib.hid by2⟩
            case measure => have := HFM.out; simp [lenV]; omega
          · have hhd2 : headB (runX R) fr = false := by simpa using hhd
            clear hhd
            have hhd := hhd2
            rw [hhd] at HBG
            clear hhd2
            obtain ⟨Z, hZ⟩ : ∃ Z, dropsX (seg (runX R) fr m) = Z := ⟨_, rfl⟩
            have hZl : pl.length + Z.length ≤ 1000000 := by rw [← hZ, dropsX_length, seg_length _ (by rw [runX_length]; exact hmR)]; have := hat.out.2.1; rw [runX_length] at this; have := HLEN.out; omega
            have HOD := Lib.hid (show OpenAt f (runX R) fr false r (pl ++ Z) from by rw [← hZ]; exact HDROP.out (by rw [hhd]; rfl))
            have HDR := Lib.hid (fun W hW => by have h := HIN.out.drops fr m hfm hmR W hW; rw [hZ, hd] at h; exact h)
            have HPB := Lib.hid hZl
            clear hZ hZl HDROP HREAD hd hfm hmR hhd
            go_wp2_with (first
              | (go_at_call 32; (with_reducible refine (HLR.out _ hbl.out).mono ?_); rintro e w3 ⟨rfl, hb3⟩; have HB3 := Lib.hid (below_then hbl.out hb3); have HB3r := Lib.hid hb3; clear hb3)
              | (go_at_call 33; (with_reducible refine (HBG.out _ HB3.out).mono ?_); rintro e w4 ⟨rfl, hb4⟩; have HB4 := Lib.hid (below_then HB3.out hb4); have HB4r := Lib.hid (below_then HB3r.out hb4); clear hb4)
              | (go_at_call 34; (with_reducible refine (HDR.out _ HB4.out).mono ?_); rintro e w5 ⟨v5, rfl, hown5, hb5⟩; obtain ⟨q5, c5, rfl⟩ := owns_shape hown5.1; have HO5 := Lib.hid hown5; have HB5 := Lib.hid (below_then HB4.out hb5); have HB5r := Lib.hid (below_then HB4r.out hb5); clear hown5 hb5)
              | (at_builtin; refine wpList_append_reads rfl _ _ 28 rfl w2.heap.size 55 i1 (.agg #[.int .i64 0, .string .empty, .int .i64 0, .string .empty]) 4 48 Try.underlying28 hj hy0 hy1 hy2 rfl (by decide) _ pl.length (dopCells pl) rfl (owns_below hpl.out HB5r.out) _ Z.length (dopCells Z) rfl HO5.out.reads (dop_one _) (by have := HPB.out; unfold maxLen; omega) (by have := HPB.out; omega) HB5.out.size ?_; intro p6 c6 w6 hown6 hg6; have HOWN6 := hown6; have HG6 := Lib.hid hg6; clear hown6 hg6)
              | fail)
            have by2 := below_grown HB5.out (owns_below hpl.out HB5r.out) HG6.out
            have ho6 := HOWN6.out
            rw [← dopCells_append, ← List.length_append] at ho6
            have hrv2 := wider (owns_below hrv.out HB5r.out) (owns_below hpl.out HB5r.out) (by decide) HG6.out
            go_roundw
            case rel => exact ⟨fr, false, r, pl ++ Z, HFR.out, rfl, rfl, HOD, Lib.hid hrv2, Lib.hid (by rw [List.length_append] at ho6 ⊢; exact ho6), Lib.hid by2⟩
            case measure => have := HFM.out; simp [lenV]; omega

end Go.Proofs.Ytkecjopojnllnaa
namespace Go.Proofs.Ytkecjopojnllnaa
open Go.RowKit Go.Deep Go.Joins

theorem seg_at (X : List (ByteArray × ByteArray)) (t m : Nat) (h : t < m) (hm : m ≤ X.length) : seg X t m = X[t] :: seg X (t + 1) m := by
  unfold seg
  rw [List.drop_eq_getElem_cons (by omega), show m - t = (m - (t + 1)) + 1 by omega, List.take_succ_cons]
theorem seg_nil (X : List (ByteArray × ByteArray)) (m : Nat) : seg X m m = [] := by unfold seg; rw [Nat.sub_self, List.take_zero]
theorem dropsX_seg (X : List (ByteArray × ByteArray)) (t m : Nat) (h : t < m) (hm : m ≤ X.length) : dropsX (seg X t m) = dropsX (seg X (t + 1) m) ++ [dropOp X[t].1] := by rw [seg_at X t m h hm, dropsX_cons]
def segN (L : List Nat) (a b : Nat) : List Nat := (L.drop a).take (b - a)
theorem segN_length (L : List Nat) {a b : Nat} (h : b ≤ L.length) : (segN L a b).length = b - a := by
  unfold segN
  rw [List.length_take, List.length_drop]
  omega
theorem runN_seg (p : ByteArray) (l : List Rw) (L : List Nat) (a b : Nat) : runN p l (segN L a b) = seg (runN p l L) a b := by
  unfold runN segN seg
  rw [List.map_take, List.map_drop]
theorem segN_mem {L : List Nat} {a b n : Nat} (h : n ∈ segN L a b) : n ∈ L := List.mem_of_mem_drop (List.mem_of_mem_take h)
theorem RunN.part {w : World} {v : Value} {l : List Rw} {p : ByteArray} {g off : Nat} {L : List Nat} (h : RunN w v l p g off L) (a b : Nat) (hb : b ≤ L.length) : RunN w v l p g (off + a) (segN L a b) := by
  have hl := segN_length L (a := a) hb
  refine ⟨h.hr, h.ho, h.hm, h.hS, h.hg, by rw [hl]; have := h.len; omega, ?_, fun n hn => h.has n (segN_mem hn), fun n hn => h.size n (segN_mem hn)⟩
  intro j hj
  rw [hl] at hj
  have e : (segN L a b)[j]'(by rw [hl]; exact hj) = L[a + j]'(by omega) := by
    unfold segN
    rw [List.getElem_take, List.getElem_drop]
  rw [e, show off + a + j = off + (a + j) by omega]
  exact h.cells (a + j) (by omega)
theorem headN {p : ByteArray} {l : List Rw} {L : List Nat} {a : Nat} (h : a < L.length) : headB (runN p l L) a = decide (0 < (scanL (bytesN p l L[a])).1.length) := by
  unfold headB
  rw [List.getElem?_eq_getElem (by rw [runN_length]; exact h), runN_get p l L a h]
theorem RunN.last {w : World} {v : Value} {l : List Rw} {p : ByteArray} {g off : Nat} {L : List Nat} (h : RunN w v l p g off L) (k cap : Nat) (hk : k + 1 ≤ L.length) :
    Calls Try.prog 38 #[.slice (some ⟨g, off, none⟩) (k + 1 : Nat) cap] w fun e w' => e = .returned (.int .i64 ((runF (numF L) k : Nat) : Int)) ∧ Below w.heap.size w w' :=
  run_any (numF L) k g off cap w (by have := h.len; omega) h.hg (fun j hj => by rw [numF_at L j (by omega)]; exact h.cells j (by omega)) (fun j hj => by
    rw [numF_at L j (by omega)]
    have := hasN_le (h.has L[j] (List.getElem_mem _))
    omega)
theorem RunN.reads {w : World} {l : List Rw} {p : ByteArray} {g off : Nat} {L : List Nat} {q : Option Addr} {dc : Nat} (h : RunN w (.slice q l.length dc) l p g off L) (hp : p.size ≤ 1000) (x y c : Nat) (hy : y ≤ L.length) :
    Calls Try.prog 41 #[.agg #[.slice q l.length dc], .string p, .slice (some ⟨g, off + x, none⟩) (y - x : Nat) c] w (ReadPost (seg (runN p l L) x y) w) := by
  have hd := read3_any l q dc p g (off + x) c _ w hp (h.part x y hy)
  rw [segN_length L hy, runN_seg] at hd
  exact hd

end Go.Proofs.Ytkecjopojnllnaa
namespace Go.Proofs.Ytkecjopojnllnaa
open Go.RowKit Go.Deep Go.Joins

set_option maxRecDepth 100000 in
set_option maxHeartbeats 8000000 in
theorem open3_yes (l : List Rw) (q : Option Addr) (dc : Nat) (p : ByteArray) (w : World) (hp : prefB p = true) (hr : Reads w (.slice q l.length dc) 3 l.length (rowCells l)) (ho : Opens w l) (hsm : Smalls l) (hm : l.length ≤ 1099511627776) (hz : Sized l) :
    Calls Try.prog 12 #[.agg #[.slice q l.length dc], .string p] w (OpenPost p l w) := by
  obtain ⟨i1, hj, hy0, hy1, hy2⟩ := info_parts (show (Try.prog.info? 55).map (fun i => (i.zero, i.size, i.bytes)) = some (some (.agg #[.int .i64 0, .string .empty, .int .i64 0, .string .empty]), 4, 48) by kernel_rfl)
  have hp8 : p.size ≤ 1000 := by have := pref_size hp; omega
  have HSG := Lib.hid (fun (W : World) (hb : Below w.heap.size w W) => segments2_any l _ p W (hr.below hb) hp8 hm)
  have HRD0 := Lib.hid hr
  have HO := Lib.hid ho
  have HSM := Lib.hid hsm
  have HZ := Lib.hid hz
  clear hr ho hsm hz
  go_enter Try.func12, Try.ntmps12
  go_wp2_with fail
  generalize hw0 : w.alloc (Obj.cells #[.slice q l.length dc] 24) = w0
  have HB0 : Hid (Below w.heap.size w w0) := Lib.hid (hw0 ▸ below1 w _)
  have d1 : w0.cell? ⟨w.heap.size, 0, none⟩ = some (.slice q l.length dc) := by rw [← hw0]; simp
  clear hw0
  go_wp2_with (first
    | (go_at_call 36; (with_reducible refine (prefix_any p _).mono ?_); rintro e w1 ⟨rfl, rfl⟩; rw [hp])
    | (go_at_call 37; (with_reducible refine (HSG.out _ HB0.out).mono ?_); rintro e ws ⟨v2, L, rfl, hown, hL, hLm, hb2⟩; have HL := Lib.hid hL; have HLM := Lib.hid hLm; have HOL := Lib.hid hown; have HB2 := Lib.hid (below_then HB0.out hb2); have HB2r := Lib.hid hb2; obtain ⟨q2, c2, rfl⟩ := owns_shape hown.1; clear hown hL hLm hb2)
    | fail)
  have hLl : L.length ≤ 1000000 := by
    obtain ⟨M, hM, hMm, hMl⟩ := nums_exist p l
    rw [strict_unique HL.out hM (fun n => by rw [HLM.out, hMm])]
    exact hMl
  rcases Nat.eq_zero_or_pos L.length with h0 | h0
  · have hL0 : L = [] := List.eq_nil_of_length_eq_zero h0
    have HE : Hid (OpenIs p l [] []) := Lib.hid ⟨L, HL.out, HLM.out, by rw [hL0]; rfl⟩
    rw [h0]
    clear hLl hL0
    go_loopw [7, 10, 8, 9] (fun a b c d wr => a = .slice q2 0 c2 ∧ b = .bool false ∧ c = .slice none 0 0 ∧ d = .slice none 0 0 ∧ Hid (Below ws.heap.size ws wr)) (fun a _ _ _ _ => lenV a)
    case atStart => exact ⟨rfl, rfl, rfl, rfl, Below.refl _ _⟩
    case round =>
      obtain ⟨rfl, rfl, rfl, rfl, hbl⟩ := hrel
      go_wp2_with fail
      go_returns
      exact ⟨_, _, [], [], rfl, HE.out, reads_nil _ _, reads_nil _ _, below_then HB2.out hbl.out⟩
  · have hne : L ≠ [] := fun e => by rw [e] at h0; exact absurd h0 (by simp)
    obtain ⟨g, cap, hv, hcc, hcm, hg, _, hcL⟩ := HOL.out.is hne
    obtain ⟨rfl, rfl⟩ : q2 = some ⟨g, 0, none⟩ ∧ c2 = cap := by
      injection hv with e1 e2 e3
      exact ⟨e1, e3⟩
    obtain ⟨off, hoff⟩ : ∃ off, 0 = off := ⟨_, rfl⟩
    have hrun : RunN ws (.slice q l.length dc) l p g off L := ⟨HRD0.out.below HB2.out, fun r hr => (HO.out r hr).below HB2.out, hm, HSM.out, hg, hLl, fun j hj => by rw [← hoff, Nat.zero_add]; exact hcL j hj, fun n hn => (HLM.out n).1 hn, fun n hn => by
      obtain ⟨r, hf⟩ := has_find ((HLM.out n).1 hn)
      unfold bytesN
      rw [hf]
      exact HZ.out r (List.mem_of_find?_eq_some hf)⟩
    have hd1 := below_cell HB2r.out d1
    have HIS : Hid (∀ r pl, openS (numF L) (runN p l L) = (r, pl) → OpenIs p l r pl) := Lib.hid (fun r pl h => ⟨L, HL.out, HLM.out, h⟩)
    have HLEN := Lib.hid hLl
    have HRUN := Lib.hid hrun
    have HD1 := Lib.hid hd1
    have HCC := Lib.hid hcc
    have HST : Hid (OpenAt (numF L) (runN p l L) L.length false [] []) := Lib.hid (by have h := OpenAt.start (numF L) (runN p l L); rw [runN_length] at h; exact h)
    rw [show (⟨g, 0, none⟩ : Addr) = ⟨g, off, none⟩ by rw [← hoff]]
    clear hv hrun hd1 d1 hcL hcc hcm hg hne h0 hoff hLl HOL
    go_loopw [7, 10, 8, 9] (fun s fdv rv pv wr => ∃ (k : Nat) (fd : Bool) (r : List ByteArray) (pl : List DOp), k ≤ L.length ∧ s = .slice (some ⟨g, off, none⟩) k c2 ∧ fdv = .bool fd ∧ Hid (OpenAt (numF L) (runN p l L) k fd r pl) ∧ Hid (wr.ownsRow ws.heap.size 9 1 rv r.length (strs r)) ∧ Hid (wr.ownsRow ws.heap.size 55 4 pv pl.length (dopCells pl)) ∧ Hid (Below ws.heap.size ws wr)) (fun s _ _ _ _ => lenV s)
    case atStart => exact ⟨L.length, false, [], [], Nat.le_refl _, rfl, rfl, HST, World.ownsRow_nil _ _ _ _, World.ownsRow_nil _ _ _ _, Below.refl _ _⟩
    case round =>
      obtain ⟨k, fd, r, pl, hk, rfl, rfl, hat, hrv, hpl, hbl⟩ := hrel
      obtain ⟨wo, hwo⟩ : ∃ wo, wo = wr := ⟨_, rfl⟩
      subst hwo
      rcases k with _ | k
      · go_wp2_with fail
        go_returns
        exact ⟨_, _, r, pl, rfl, HIS.out r pl hat.out.done, reads_of_owns hrv.out, reads_of_owns hpl.out, below_then HB2.out hbl.out⟩
      · have HR := Lib.hid (HRUN.out.below hbl.out)
        have HLR := Lib.hid (HR.out.last k c2 hk)
        have HDROP := Lib.hid (@OpenAt.drop (numF L) (runN p l L) k fd r pl hat.out)
        have HREAD := Lib.hid (@OpenAt.read (numF L) (runN p l L) k fd r pl hat.out)
        have hle := runF_le (numF L) k
        obtain ⟨fr, hfr⟩ : ∃ fr, runF (numF L) k = fr := ⟨_, rfl⟩
        obtain ⟨m, hm'⟩ : ∃ m, k + 1 = m := ⟨_, rfl⟩
        rw [hfr] at hle HLR HDROP HREAD
        rw [hm'] at hk HLR HDROP HREAD hat
        rw [hm']
        have hmL : m ≤ L.length := hk
        have hfm : fr < m := by omega
        have hfl : fr < L.length := by omega
        have hc2 := HCC.out
        have hl9 := HLEN.out
        have ck := HR.out.cells fr hfl
        have hd := below_cell hbl.out HD1.out
        have hn9 := hasN_le (HR.out.has L[fr] (List.getElem_mem _))
        have hby := fun (W : World) (hW : Below wo.heap.size wo W) => bytesN_any p l _ L[fr] W (HR.out.has L[fr] (List.getElem_mem _)) (HR.out.hr.below hW) (fun r hr => (HR.out.ho r hr).below hW) HR.out.hm HR.out.hS
        have hsz := HR.out.size L[fr] (List.getElem_mem _)
        have hhead := headN (p := p) (l := l) hfl
        obtain ⟨n, hn⟩ : ∃ n, L[fr]'hfl = n := ⟨_, rfl⟩
        simp only [hn] at ck hn9 hby hsz hhead
        obtain ⟨y, hy⟩ : ∃ y, bytesN p l n = y := ⟨_, rfl⟩
        simp only [hy] at hby hsz hhead
        have HB := Lib.hid hby
        have HS := Lib.hid (fun W => scan3_any y W (by omega))
        obtain ⟨Q, hQ⟩ : ∃ Q, (scanL y).1 = Q := ⟨_, rfl⟩
        obtain ⟨sn, hsn⟩ : ∃ sn, (scanL y).2 = sn := ⟨_, rfl⟩
        unfold ScanPost at HS
        rw [hQ, hsn] at HS
        rw [hQ] at hhead
        have HHEAD := Lib.hid hhead
        clear hn hy hby hQ hsn hhead hsz
        have HCELL : Hid (∀ W, Below wo.heap.size wo W → W.cell? ⟨w.heap.size, 0, none⟩ = some (.slice q l.length dc) ∧ W.cell? ⟨g, off + fr, none⟩ = some (.int .i64 (n : Int))) := Lib.hid (fun W hW => ⟨below_cell hW hd, below_cell hW ck⟩)
        have g0 : (0 : Int) < (m : Int) := by omega
        have g0n : 0 < m := by omega
        have g2 : (0 : Int) ≤ (fr : Int) := by omega
        have g3 : (fr : Int) ≤ (c2 : Int) := by omega
        have g4 : fr ≤ c2 := by omega
        have g5 : fr ≤ 1000000 := by omega
        have g6 : (fr : Int) < (m : Int) := by omega
        have g7 : m ≤ 1000000 := by omega
        have g8 : ¬ c2 = fr := by omega
        have g9 : (fr : Int) ≤ (m : Int) := by omega
        have HFR : Hid (fr ≤ L.length) := Lib.hid (by omega)
        clear hle hfr hm' hk hl9 hc2
        go_upto_region 9 with (first | (go_at_call 38; (with_reducible refine HLR.out.mono ?_); rintro e w3 ⟨rfl, hb3⟩; have HB3 := Lib.hid hb3; clear hb3) | fail)
        go_cut [12] from 25 to 85 (fun x wx => x = .string y ∧ Hid (Below wo.heap.size wo wx))
        case first =>
          go_region_held3 (fun W => W.cell? ⟨w.heap.size, 0, none⟩ = some (.slice q l.length dc) ∧ W.cell? ⟨g, off + fr, none⟩ = some (.int .i64 (n : Int)))
            ((refine HCELL.out _ ?_; (repeat (first | with_reducible exact N5 | with_reducible exact N4 | with_reducible exact HB3.out | with_reducible exact nb_refl _ | with_reducible refine nb_drew ?_))))
            (first
              | (go_at_call 23; with_reducible refine (name3_any p n _ hp8 (by omega)).mono ?_; rintro e w4 ⟨rfl, hb4⟩; have N4 := below_then (nb_drew HB3.out) hb4)
              | (go_at_call 39; with_reducible refine (HB.out _ N4).mono ?_; rintro e w5 ⟨rfl, hb5⟩; have N5 := below_then N4 hb5)
              | fail)
          go_wp2_with fail
          go_meet
          exact ⟨rfl, Lib.hid N5⟩
        case rest =>
          obtain ⟨rfl, hbx⟩ := hcut
          cases fd with
          | true =>
            clear HREAD
            have e0 : IntKind.i64.wrap ((m : Int) - 1) = (m : Int) - 1 := IntWalk.i64_in _ (by omega)
            go_wp2_with (first
              | (go_at_call 40; (with_reducible refine (HS.out _).mono ?_); rintro e w2 ⟨v2, rfl, hown2, hb2⟩; obtain ⟨p2, c3, rfl⟩ := owns_shape hown2; have HO2 := Lib.hid hown2; have HB2 := Lib.hid (below_then hbx.out hb2); clear hown2 hb2)
              | fail)
            go_loopw [16, 9] (fun a u wi => ∃ t : Nat, fr ≤ t ∧ t ≤ m ∧ a = .int .i64 ((t : Int) - 1) ∧ Hid (wi.ownsRow ws.heap.size 55 4 u (pl ++ dropsX (seg (runN p l L) t m)).length (dopCells (pl ++ dropsX (seg (runN p l L) t m)))) ∧ Hid (wi.ownsRow ws.heap.size 9 1 u8 r.length (strs r)) ∧ Hid (Below ws.heap.size ws wi)) (fun a _ _ => (intOf a + 1).toNat)
            case atStart => exact ⟨m, by omega, Nat.le_refl _, rfl, Lib.hid (by rw [seg_nil]; simp only [dropsX, List.reverse_nil, List.map_nil, List.append_nil]; exact owns_below hpl.out HB2.out), Lib.hid (owns_below hrv.out HB2.out), Lib.hid (below_then hbl.out HB2.out)⟩
            case round =>
              obtain ⟨t, hft, htm, rfl, hp9, hbi, hbs⟩ := hrel
              obtain ⟨wi, hwi⟩ : ∃ wi, wi = wr := ⟨_, rfl⟩
              subst hwi
              have HRI := Lib.hid (HRUN.out.below hbs.out)
              by_cases hlt2 : fr < t
              · obtain ⟨j, rfl⟩ : ∃ j, t = j + 1 := ⟨t - 1, by omega⟩
                have e1 : ((j + 1 : Nat) : Int) - 1 = (j : Int) := by omega
                rw [e1]
                have hjl : j < L.length := by omega
                have cj := HRI.out.cells j hjl
                have hj9 := hasN_le (HRI.out.has L[j] (List.getElem_mem _))
                have hnx := dropsX_seg (runN p l L) j m (by omega) (by rw [runN_length]; exact hmL)
                rw [runN_get p l L j hjl] at hnx
                have hpl2 : (pl ++ dropsX (seg (runN p l L) (j + 1) m)).length ≤ 1000000 := by
                  rw [List.length_append, dropsX_length, seg_length _ (by rw [runN_length]; exact hmL)]
                  have := hat.out.2.1
                  rw [runN_length] at this
                  have := HLEN.out
                  omega
                obtain ⟨D, hD⟩ : ∃ D, pl ++ dropsX (seg (runN p l L) (j + 1) m) = D := ⟨_, rfl⟩
                have hnx2 : pl ++ dropsX (seg (runN p l L) j m) = D ++ [dropOp (nameOf p L[j])] := by rw [hnx, ← hD, List.append_assoc]
                obtain ⟨m', hm'⟩ : ∃ m', L[j]'hjl = m' := ⟨_, rfl⟩
                simp only [hm'] at cj hj9 hnx2
                rw [hD] at hp9 hpl2
                have HNX := Lib.hid hnx2
                have HPL := Lib.hid hpl2
                have c1 : (0 : Int) ≤ (j : Int) := by omega
                have c4 : (fr : Int) ≤ (j : Int) := by omega
                have c5 : (j : Int) < (m : Int) := by omega
                have w3j : IntKind.i64.wrap ((j : Int) - 1) = (j : Int) - 1 := IntWalk.i64_in _ (by omega)
                have HJ := Lib.hid (And.intro hft (And.intro hlt2 (And.intro htm hjl)))
                clear hnx hnx2 hpl2 hD hm' hft htm hlt2
                go_wp2_with (first
                  | (go_at_call 23; (with_reducible refine (name3_any p m' _ hp8 (by omega)).mono ?_); rintro e w7 ⟨rfl, hb7⟩; have HB7 := Lib.hid hb7; clear hb7)
                  | (at_builtin; refine wpList_append_own _ rfl _ _ 28 rfl ws.heap.size 55 i1 (.agg #[.int .i64 0, .string .empty, .int .i64 0, .string .empty]) 4 48 Try.underlying28 hj hy0 hy1 hy2 rfl (by decide) _ D.length (dopCells D) rfl ?aA1 ⟨w7.heap.size, 0, none⟩ 1 1 [.int .i64 4, .string (nameOf p m'), .int .i64 0, .string ⟨#[]⟩] rfl rfl ?aA2 ?aA3 ?aA4 ?aA5 ?aA6 ?_; rotate_right 1; intro v8 w8 hown8 hg8 hnil8; have HOWN8 := Lib.hid hown8; have HG8 := Lib.hid hg8; have HNIL8 := Lib.hid hnil8; clear hown8 hg8 hnil8)
                  | fail)
                case aA1 => exact owns_below (owns_below hp9.out HB7.out) (below1 _ _)
                case aA2 =>
                  intro j u hu
                  rw [add_lit, Nat.zero_add, cell_of_row _ _ _ _ 55 _ (heap_alloc_new w7 _)]
                  simpa using hu
                case aA3 =>
                  intro u hu
                  simp at hu
                  rcases hu with rfl | rfl | rfl | rfl <;> rfl
                case aA4 => have := HPL.out; unfold maxLen; omega
                case aA5 => have := HPL.out; omega
                case aA6 => have := hbs.out.size; have := HB7.out.size; simp; omega
                have o1 := owns_below (owns_below hp9.out HB7.out) (below1 w7 (.cells #[.int .i64 4, .string (nameOf p m'), .int .i64 0, .string ⟨#[]⟩] 55))
                have bx1 := nb_alloc (below_then hbs.out HB7.out) (.cells #[.int .i64 4, .string (nameOf p m'), .int .i64 0, .string ⟨#[]⟩] 55)
                have bx2 := below_grown bx1 o1 HG8.out
                have rv2 := wider (owns_below (owns_below hbi.out HB7.out) (below1 w7 (.cells #[.int .i64 4, .string (nameOf p m'), .int .i64 0, .string ⟨#[]⟩] 55))) o1 (by decide) HG8.out
                have HJ2 := HJ.out
                refine ⟨⟨j, by omega, by omega, rfl, ?_, Lib.hid rv2, Lib.hid bx2⟩, by simp [intOf]⟩
                refine Lib.hid ?_
                rw [HNX.out, dop_snoc, List.length_append]
                exact HOWN8.out
              · obtain rfl : t = fr := by omega
                clear hlt2 hft htm
                have e2 : IntKind.i64.wrap ((t : Int) - 1) = (t : Int) - 1 := IntWalk.i64_in _ (by omega)
                go_wp2_with fail
                go_roundw
                case rel => exact ⟨t, true, r, pl ++ dropsX (seg (runN p l L) t m), HFR.out, rfl, rfl, Lib.hid (HDROP.out (by simp)), hbi, hp9, hbs⟩
                case measure => simp [lenV]; omega
          | false =>
            by_cases hhd : 0 < Q.length
            · have hz1 : ((Q.length : Int) == 0) = false := by rw [beq_eq_false_iff_ne]; omega
              have hz2 : ¬ (Q.length : Int) = 0 := by omega
              have hz3 : ¬ Q.length = 0 := by omega
              have hz4 : ¬ Q = [] := fun e => by rw [e] at hz3; exact hz3 rfl
              clear HDROP
              obtain ⟨Z, hZ⟩ : ∃ Z, (readS (seg (runN p l L) fr m)).2 = Z := ⟨_, rfl⟩
              obtain ⟨Y, hY⟩ : ∃ Y, (readS (seg (runN p l L) fr m)).1 = Y := ⟨_, rfl⟩
              have hZl : pl.length + Z.length ≤ 1000000 := by rw [← hZ]; have := readS_len (seg (runN p l L) fr m); rw [seg_length _ (by rw [runN_length]; exact hmL)] at this; have h2 := hat.out.2.1; rw [runN_length] at h2; have := HLEN.out; omega
              have HOD := Lib.hid (show OpenAt (numF L) (runN p l L) fr true Y (pl ++ Z) from by rw [← hZ, ← hY]; exact HREAD.out (by rw [HHEAD.out]; simp [hhd]))
              have HRX := Lib.hid (fun (W : World) (hW : Below wo.heap.size wo W) => by have h := (HR.out.below hW).reads hp8 fr m (c2 - fr) hmL; unfold ReadPost at h; rw [hZ, hY] at h; exact h)
              have HPB := Lib.hid hZl
              clear hZ hY hZl HREAD
              go_upto_region 16 with (first
                | (go_at_call 40; (with_reducible refine (HS.out _).mono ?_); rintro e w2 ⟨v2, rfl, hown2, hb2⟩; obtain ⟨p2, c3, rfl⟩ := owns_shape hown2; have HO2 := Lib.hid hown2; have HB2 := Lib.hid (below_then hbx.out hb2); clear hown2 hb2)
                | fail)
              go_cut [17, 18] from 25 to 85 (fun a c wx => Hid (wx.ownsRow wo.heap.size 9 1 a Y.length (strs Y)) ∧ Hid (wx.ownsRow wo.heap.size 55 4 c Z.length (dopCells Z)) ∧ Hid (Below wo.heap.size wo wx))
              case first =>
                go_region_held3 (fun W => W.cell? ⟨w.heap.size, 0, none⟩ = some (.slice q l.length dc))
                  ((refine (HCELL.out _ ?_).1; (repeat (first | with_reducible exact N6 | with_reducible exact HB2.out | with_reducible refine nb_drew ?_))))
                  (first
                    | (go_at_call 41; with_reducible refine (HRX.out _ (nb_drew HB2.out)).mono ?_; rintro e w6 ⟨v4, v5, rfl, hown4, hown5, hb6⟩; have N6 := below_then (nb_drew HB2.out) hb6)
                    | fail)
                go_wp2_with fail
                go_meet
                exact ⟨Lib.hid (owns_base hown4 (nb_drew HB2.out).size), Lib.hid (owns_base hown5.1 (nb_drew HB2.out).size), Lib.hid N6⟩
              case rest =>
                obtain ⟨ho4, ho5, hbw⟩ := hcut
                obtain ⟨q4, c4, rfl⟩ := owns_shape ho4.out
                obtain ⟨q5, c5, rfl⟩ := owns_shape ho5.out
                have HO4 := Lib.hid (owns_base ho4.out hbl.out.size)
                have HO5 := Lib.hid (reads_of_owns ho5.out)
                clear ho4 ho5
                go_wp2_with (first
                  | (at_builtin; refine wpList_append_reads rfl _ _ 28 rfl ws.heap.size 55 i1 (.agg #[.int .i64 0, .string .empty, .int .i64 0, .string .empty]) 4 48 Try.underlying28 hj hy0 hy1 hy2 rfl (by decide) _ pl.length (dopCells pl) rfl (owns_below hpl.out hbw.out) _ Z.length (dopCells Z) rfl HO5.out (dop_one _) (by have := HPB.out; unfold maxLen; omega) (by have := HPB.out; omega) (by have := hbl.out.size; have := hbw.out.size; omega) ?_; intro p6 c6 w6 hown6 hg6; have HOWN6 := hown6; have HG6 := Lib.hid hg6; clear hown6 hg6)
                  | fail)
                have by2 := below_grown (below_then hbl.out hbw.out) (owns_below hpl.out hbw.out) HG6.out
                have hrv2 := wider HO4.out (owns_below hpl.out hbw.out) (by decide) HG6.out
                have ho6 := HOWN6.out
                rw [← dopCells_append, ← List.length_append] at ho6
                go_roundw
                case rel => exact ⟨fr, true, Y, pl ++ Z, HFR.out, rfl, rfl, HOD, Lib.hid hrv2, Lib.hid (by rw [List.length_append] at ho6 ⊢; exact ho6), Lib.hid by2⟩
                case measure => simp [lenV]; omega
            · have hq0 : Q.length = 0 := by omega
              rw [hq0] at HS
              clear HREAD
              have e0 : IntKind.i64.wrap ((m : Int) - 1) = (m : Int) - 1 := IntWalk.i64_in _ (by omega)
              go_wp2_with (first
                | (go_at_call 40; (with_reducible refine (HS.out _).mono ?_); rintro e w2 ⟨v2, rfl, hown2, hb2⟩; obtain ⟨p2, c3, rfl⟩ := owns_shape hown2; have HO2 := Lib.hid hown2; have HB2 := Lib.hid (below_then hbx.out hb2); clear hown2 hb2)
                | fail)
              go_loopw [16, 9] (fun a u wi => ∃ t : Nat, fr ≤ t ∧ t ≤ m ∧ a = .int .i64 ((t : Int) - 1) ∧ Hid (wi.ownsRow ws.heap.size 55 4 u (pl ++ dropsX (seg (runN p l L) t m)).length (dopCells (pl ++ dropsX (seg (runN p l L) t m)))) ∧ Hid (wi.ownsRow ws.heap.size 9 1 u8 r.length (strs r)) ∧ Hid (Below ws.heap.size ws wi)) (fun a _ _ => (intOf a + 1).toNat)
              case atStart => exact ⟨m, by omega, Nat.le_refl _, rfl, Lib.hid (by rw [seg_nil]; simp only [dropsX, List.reverse_nil, List.map_nil, List.append_nil]; exact owns_below hpl.out HB2.out), Lib.hid (owns_below hrv.out HB2.out), Lib.hid (below_then hbl.out HB2.out)⟩
              case round =>
                obtain ⟨t, hft, htm, rfl, hp9, hbi, hbs⟩ := hrel
                obtain ⟨wi, hwi⟩ : ∃ wi, wi = wr := ⟨_, rfl⟩
                subst hwi
                have HRI := Lib.hid (HRUN.out.below hbs.out)
                by_cases hlt2 : fr < t
                · obtain ⟨j, rfl⟩ : ∃ j, t = j + 1 := ⟨t - 1, by omega⟩
                  have e1 : ((j + 1 : Nat) : Int) - 1 = (j : Int) := by omega
                  rw [e1]
                  have hjl : j < L.length := by omega
                  have cj := HRI.out.cells j hjl
                  have hj9 := hasN_le (HRI.out.has L[j] (List.getElem_mem _))
                  have hnx := dropsX_seg (runN p l L) j m (by omega) (by rw [runN_length]; exact hmL)
                  rw [runN_get p l L j hjl] at hnx
                  have hpl2 : (pl ++ dropsX (seg (runN p l L) (j + 1) m)).length ≤ 1000000 := by
                    rw [List.length_append, dropsX_length, seg_length _ (by rw [runN_length]; exact hmL)]
                    have := hat.out.2.1
                    rw [runN_length] at this
                    have := HLEN.out
                    omega
                  obtain ⟨D, hD⟩ : ∃ D, pl ++ dropsX (seg (runN p l L) (j + 1) m) = D := ⟨_, rfl⟩
                  have hnx2 : pl ++ dropsX (seg (runN p l L) j m) = D ++ [dropOp (nameOf p L[j])] := by rw [hnx, ← hD, List.append_assoc]
                  obtain ⟨m', hm'⟩ : ∃ m', L[j]'hjl = m' := ⟨_, rfl⟩
                  simp only [hm'] at cj hj9 hnx2
                  rw [hD] at hp9 hpl2
                  have HNX := Lib.hid hnx2
                  have HPL := Lib.hid hpl2
                  have c1 : (0 : Int) ≤ (j : Int) := by omega
                  have c4 : (fr : Int) ≤ (j : Int) := by omega
                  have c5 : (j : Int) < (m : Int) := by omega
                  have w3j : IntKind.i64.wrap ((j : Int) - 1) = (j : Int) - 1 := IntWalk.i64_in _ (by omega)
                  have HJ := Lib.hid (And.intro hft (And.intro hlt2 (And.intro htm hjl)))
                  clear hnx hnx2 hpl2 hD hm' hft htm hlt2
                  go_wp2_with (first
                    | (go_at_call 23; (with_reducible refine (name3_any p m' _ hp8 (by omega)).mono ?_); rintro e w7 ⟨rfl, hb7⟩; have HB7 := Lib.hid hb7; clear hb7)
                    | (at_builtin; refine wpList_append_own _ rfl _ _ 28 rfl ws.heap.size 55 i1 (.agg #[.int .i64 0, .string .empty, .int .i64 0, .string .empty]) 4 48 Try.underlying28 hj hy0 hy1 hy2 rfl (by decide) _ D.length (dopCells D) rfl ?aB1 ⟨w7.heap.size, 0, none⟩ 1 1 [.int .i64 4, .string (nameOf p m'), .int .i64 0, .string ⟨#[]⟩] rfl rfl ?aB2 ?aB3 ?aB4 ?aB5 ?aB6 ?_; rotate_right 1; intro v8 w8 hown8 hg8 hnil8; have HOWN8 := Lib.hid hown8; have HG8 := Lib.hid hg8; have HNIL8 := Lib.hid hnil8; clear hown8 hg8 hnil8)
                    | fail)
                  case aB1 => exact owns_below (owns_below hp9.out HB7.out) (below1 _ _)
                  case aB2 =>
                    intro j u hu
                    rw [add_lit, Nat.zero_add, cell_of_row _ _ _ _ 55 _ (heap_alloc_new w7 _)]
                    simpa using hu
                  case aB3 =>
                    intro u hu
                    simp at hu
                    rcases hu with rfl | rfl | rfl | rfl <;> rfl
                  case aB4 => have := HPL.out; unfold maxLen; omega
                  case aB5 => have := HPL.out; omega
                  case aB6 => have := hbs.out.size; have := HB7.out.size; simp; omega
                  have o1 := owns_below (owns_below hp9.out HB7.out) (below1 w7 (.cells #[.int .i64 4, .string (nameOf p m'), .int .i64 0, .string ⟨#[]⟩] 55))
                  have bx1 := nb_alloc (below_then hbs.out HB7.out) (.cells #[.int .i64 4, .string (nameOf p m'), .int .i64 0, .string ⟨#[]⟩] 55)
                  have bx2 := below_grown bx1 o1 HG8.out
                  have rv2 := wider (owns_below (owns_below hbi.out HB7.out) (below1 w7 (.cells #[.int .i64 4, .string (nameOf p m'), .int .i64 0, .string ⟨#[]⟩] 55))) o1 (by decide) HG8.out
                  have HJ2 := HJ.out
                  refine ⟨⟨j, by omega, by omega, rfl, ?_, Lib.hid rv2, Lib.hid bx2⟩, by simp [intOf]⟩
                  refine Lib.hid ?_
                  rw [HNX.out, dop_snoc, List.length_append]
                  exact HOWN8.out
                · obtain rfl : t = fr := by omega
                  clear hlt2 hft htm
                  have e2 : IntKind.i64.wrap ((t : Int) - 1) = (t : Int) - 1 := IntWalk.i64_in _ (by omega)
                  go_wp2_with fail
                  go_roundw
                  case rel => exact ⟨t, false, r, pl ++ dropsX (seg (runN p l L) t m), HFR.out, rfl, rfl, Lib.hid (HDROP.out (by rw [HHEAD.out]; simp [hq0])), hbi, hp9, hbs⟩
                  case measure => simp [lenV]; omega

end Go.Proofs.Ytkecjopojnllnaa
