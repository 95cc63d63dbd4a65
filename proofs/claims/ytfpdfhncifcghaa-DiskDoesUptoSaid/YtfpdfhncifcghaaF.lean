/- A crash. -/
import Derived.Test.YtfpdfhncifcghaaE
import Derived.Laws.AppendOwnNone
import Derived.Deep.RegionWith
import Derived.Deep.RegionHeld3
import Derived.StillTailTactics
namespace Go.Proofs.Ytfpdfhncifcghaa
open Go.RowKit

/-- 'append(T(nil), src...)': a row of the call's own that holds what src holds. -/
theorem wpList_append_copy {P : Program} {w : World} {ops : Array Oper} {rest : List Oper} {o : Oper} {a : Act} {Q : Exit → Act → World → Prop} (hgd : o.guard = none) (s x : Operand) (t : TypeId)
    (ho : o.op = .call { callee := .builtin .append, args := #[s, x], argTypes := #[t, t] })
    (base : Nat) (e : TypeId) (i : TypeInfo) (z : Value) (size bytes : Nat) (ht : P.underlying t = some (.slice e)) (hi : P.info? e = some i) (hz : i.zero = some z)
    (hsize : i.size = size) (hby : i.bytes = bytes) (hzs : z.cells.size = size) (hsz : 0 < size)
    (hs : a.eval s = .slice none 0 0) (src : Value) (hx : a.eval x = src) (n : Nat) (cells : List Value) (hr : Reads w src size n cells) (h1 : ∀ u ∈ cells, u.oneCell' = true)
    (h63 : n ≤ maxLen) (hbytes : n * bytes ≤ 140737488355328) (hbase : base ≤ w.heap.size)
    (h : ∀ p cap w', w'.ownsRow base e size (.slice p n cap) n cells → w.grownBy w' none → wpList P ops Q rest (a.put o.dst (.slice p n cap)) w') : wpList P ops Q (o :: rest) a w := by
  obtain ⟨hl, hr⟩ := hr
  rcases hr with ⟨rfl, rfl⟩ | ⟨ad, cap, rfl, _, _, hc⟩
  · have hnil : cells = [] := List.eq_nil_of_length_eq_zero (by simpa using hl)
    subst hnil
    refine wpList_append_own_none hgd s x t ho base e i size ht hi _ 0 [] hs (World.ownsRow_nil w base e size) hx ?_
    exact h _ _ _ (World.ownsRow_nil w base e size) ⟨rfl, rfl, rfl, Nat.le_refl _, fun _ _ _ => rfl⟩
  · refine wpList_append_own w hgd s x t ho base e i z size bytes ht hi hz hsize hby hzs hsz _ 0 [] hs (World.ownsRow_nil w base e size) ad n cap cells hx hl hc h1 (by omega) (by rw [Nat.zero_add]; exact hbytes) hbase ?_
    intro v' w' h2 h3 _
    rw [Nat.zero_add, List.nil_append] at h2
    obtain ⟨p, cap', hv⟩ : ∃ p cap', v' = .slice p n cap' := by
      rcases h2.2 with ⟨h4, h5⟩ | ⟨g, cap', _, h4, _⟩
      · exact ⟨_, _, h5 ▸ h4⟩
      · exact ⟨_, _, h4⟩
    subst hv
    exact h p cap' w' h2 h3

/-! ### Fates -/
structure Ft where
  wv : Value
  torn : Int
  nb : Int
  whole : List Bool
def ftCells (l : List Ft) : List Value := l.flatMap fun r => [r.wv, .int .i64 r.torn, .int .i64 r.nb]
theorem ftCells_length (l : List Ft) : (ftCells l).length = l.length * 3 := by
  induction l with
  | nil => rfl
  | cons x l ih => simp only [ftCells, List.flatMap_cons, List.length_append, List.length_cons, List.length_nil] at *; omega
theorem ftCells_get (l : List Ft) (k : Nat) (h : k < l.length) :
    (ftCells l)[k * 3]? = some l[k].wv ∧ (ftCells l)[k * 3 + 1]? = some (.int .i64 l[k].torn) ∧ (ftCells l)[k * 3 + 2]? = some (.int .i64 l[k].nb) := by
  induction l generalizing k with
  | nil => simp at h
  | cons x l ih =>
    have e : ftCells (x :: l) = x.wv :: .int .i64 x.torn :: .int .i64 x.nb :: ftCells l := rfl
    rw [e]
    cases k with
    | zero => simp
    | succ k =>
      have := ih k (by simpa using h)
      rw [show (k + 1) * 3 = k * 3 + 1 + 1 + 1 by omega]
      simpa using this
theorem Reads.fate {w : World} {v : Value} {l : List Ft} (h : Reads w v 3 l.length (ftCells l)) (k : Nat) (hk : k < l.length) :
    ∃ b off cap, v = .slice (some ⟨b, off, none⟩) l.length cap ∧ l.length ≤ cap ∧ cap ≤ maxLen ∧ b < w.heap.size ∧ w.cell? ⟨b, off + k * 3, none⟩ = some l[k].wv ∧
      w.cell? ⟨b, off + k * 3 + 1, none⟩ = some (.int .i64 l[k].torn) ∧ w.cell? ⟨b, off + k * 3 + 2, none⟩ = some (.int .i64 l[k].nb) := by
  obtain ⟨b, off, cap, hv, h1, h2, hb, hc⟩ := h.at (by omega)
  obtain ⟨g0, g1, g2⟩ := ftCells_get l k hk
  exact ⟨b, off, cap, hv, h1, h2, hb, hc _ _ g0, hc _ _ g1, hc _ _ g2⟩

def survOf (r : Rw) : Option Ft → List Wr
  | none => []
  | some f => surv f.whole f.torn f.nb 0 r.opens
def crashRow (r : Rw) (f : Option Ft) : Rw := ⟨r.name, layB r.safe (survOf r f), .slice none 0 0, []⟩
def crashRows (l : List Rw) (fs : List Ft) : List Rw := l.mapIdx fun i r => crashRow r fs[i]?

/-- What the sizes must be. -/
def Okay (l : List Rw) : Prop := ∀ r ∈ l, r.safe.size ≤ 140737489403904 ∧ (∀ x ∈ r.opens, x.bytes.size ≤ 140737488355328) ∧ r.opens.length * 24 ≤ 140737488355328
/-- The open writes of every file read as they should. -/
def Opens (w : World) (l : List Rw) : Prop := ∀ r ∈ l, Reads w r.ov 2 r.opens.length (wrCells r.opens)
def Wholes (w : World) (l : List Ft) : Prop := ∀ r ∈ l, Reads w r.wv 1 r.whole.length (boolCells r.whole)
theorem Opens.below {w w' : World} {l : List Rw} (h : Opens w l) (hb : Below w.heap.size w w') : Opens w' l := fun r hr => (h r hr).below hb

theorem surv_length (whole : List Bool) (torn nb : Int) (l : List Wr) (i : Nat) : (surv whole torn nb i l).length ≤ l.length := by
  induction l generalizing i with
  | nil => simp [surv_nil]
  | cons x l ih =>
    rw [surv_cons]
    have := ih (i + 1)
    split
    · simp
    · split <;> simp <;> omega
theorem cutTo_size (nb : Int) (s : ByteArray) : (cutTo nb s).size ≤ s.size := by
  obtain ⟨x, m, h1, h2, _⟩ := cut_ops nb s
  rw [h2, ByteArray.size_extract]
  omega
theorem surv_bytes (whole : List Bool) (torn nb : Int) (B : Nat) (l : List Wr) (i : Nat) (h : ∀ x ∈ l, x.bytes.size ≤ B) : ∀ x ∈ surv whole torn nb i l, x.bytes.size ≤ B := by
  induction l generalizing i with
  | nil => intro x hx; rw [surv_nil] at hx; cases hx
  | cons y l ih =>
    have h1 := h y (by simp)
    have h2 := ih (i + 1) fun x hx => h x (List.mem_cons_of_mem _ hx)
    intro x hx
    rw [surv_cons] at hx
    split at hx
    · rw [List.mem_singleton] at hx
      subst hx
      exact Nat.le_trans (cutTo_size nb y.bytes) h1
    · split at hx
      · rcases List.mem_cons.1 hx with rfl | hx
        · exact h1
        · exact h2 x hx
      · exact h2 x hx

theorem reads_of_owns {w : World} {B : Nat} {e : TypeId} {size n : Nat} {v : Value} {xs : List Value} (h : w.ownsRow B e size v n xs) : Reads w v size n xs := by
  refine ⟨h.1, ?_⟩
  rcases h.2 with h2 | ⟨g, cap, cur, hv, _, hg, hn, hm, _, _⟩
  · exact .inl h2
  · refine .inr ⟨⟨g, 0, none⟩, cap, hv, hn, hm, h.cells ?_⟩
    rw [hv]; rfl

theorem mix_at (R l : List Rw) (k : Nat) (hR : R.length = l.length) (hk : k < l.length) {h : k < (R.take k ++ l.drop k).length} : (R.take k ++ l.drop k)[k] = l[k] := by
  rw [List.getElem_append_right (by simp; omega)]
  simp [hR, Nat.min_eq_left (Nat.le_of_lt hk)]
theorem mix_set (R l : List Rw) (k : Nat) (hR : R.length = l.length) (hk : k < l.length) : (R.take k ++ l.drop k).set k (R[k]'(by omega)) = R.take (k + 1) ++ l.drop (k + 1) := by
  rw [List.take_succ_eq_append_getElem (by omega)]
  rw [List.set_append_right _ _ (by simp; omega), List.append_assoc]
  have e : (l.drop k).set 0 (R[k]'(by omega)) = R[k]'(by omega) :: l.drop (k + 1) := by rw [List.drop_eq_getElem_cons hk]; rfl
  simp [hR, Nat.min_eq_left (Nat.le_of_lt hk), e]
theorem rowCells_set (l : List Rw) (k : Nat) (r : Rw) (h : k < l.length) : (((rowCells l).set (k * 3) (.string r.name)).set (k * 3 + 1) (.string r.safe)).set (k * 3 + 2) r.ov = rowCells (l.set k r) := by
  induction l generalizing k with
  | nil => simp at h
  | cons x l ih =>
    have e : ∀ (y : Rw) (m : List Rw), rowCells (y :: m) = .string y.name :: .string y.safe :: y.ov :: rowCells m := fun _ _ => rfl
    cases k with
    | zero => simp [e]
    | succ k =>
      have := ih k (by simpa using h)
      rw [show (k + 1) * 3 = k * 3 + 1 + 1 + 1 by omega]
      simp only [List.set_cons_succ, e, this]
/-- File number k of a row of the call's own. -/
theorem owns_file {w : World} {B n cap : Nat} {q : Option Addr} {l : List Rw} (h : w.ownsRow B 35 3 (.slice q n cap) n (rowCells l)) (k : Nat) (hk : k < l.length) (h0 : 0 < n) :
    ∃ g, q = some ⟨g, 0, none⟩ ∧ B ≤ g ∧ g < w.heap.size ∧ w.cell? ⟨g, k * 3, none⟩ = some (.string l[k].name) ∧ w.cell? ⟨g, k * 3 + 1, none⟩ = some (.string l[k].safe) ∧
      w.cell? ⟨g, k * 3 + 2, none⟩ = some l[k].ov ∧ ∀ j, w.frozen? ⟨g, j, none⟩ = false := by
  rcases h.2 with ⟨_, h2⟩ | ⟨g, cap', cur, hv, hB, hg, _⟩
  · omega
  · obtain ⟨rfl, rfl⟩ : q = some ⟨g, 0, none⟩ ∧ cap = cap' := by simpa using hv
    obtain ⟨g0, g1, g2⟩ := rowCells_get l k hk
    have hl := h.1
    rw [rowCells_length] at hl
    refine ⟨g, rfl, hB, (Array.getElem?_eq_some_iff.1 hg).1, ?_, ?_, ?_, fun j => h.frozenAt j⟩
    · rw [h.cellAt _ (by omega)]; exact g0
    · rw [h.cellAt _ (by omega)]; exact g1
    · rw [h.cellAt _ (by omega)]; exact g2

theorem owns_below {w w' : World} {B n size : Nat} {e : TypeId} {v : Value} {xs : List Value} (h : w.ownsRow B e size v n xs) (hb : Below w.heap.size w w') : w'.ownsRow B e size v n xs := by
  refine ⟨h.1, ?_⟩
  rcases h.2 with h2 | ⟨g, cap, cur, h1, h2, h3, r⟩
  · exact .inl h2
  · exact .inr ⟨g, cap, cur, h1, h2, (hb.block g (Array.getElem?_eq_some_iff.1 h3).1).trans h3, r⟩
theorem owns_writes {w : World} {B n : Nat} {v : Value} {l : List Wr} (h : w.ownsRow B 37 2 v n (wrCells l)) : Reads w v 2 l.length (wrCells l) := by
  have hl := h.1
  rw [wrCells_length] at hl
  obtain rfl : n = l.length := by omega
  exact reads_of_owns h
theorem owns_put {w : World} {B n cap g : Nat} {m : List Rw} (h : w.ownsRow B 35 3 (.slice (some ⟨g, 0, none⟩) n cap) n (rowCells m)) (k : Nat) (hk : k < m.length) (r : Rw) :
    (((w.setCell ⟨g, k * 3, none⟩ (.string r.name)).setCell ⟨g, k * 3 + 1, none⟩ (.string r.safe)).setCell ⟨g, k * 3 + 2, none⟩ r.ov).ownsRow B 35 3 (.slice (some ⟨g, 0, none⟩) n cap) n (rowCells (m.set k r)) := by
  rw [← rowCells_set m k r hk]
  exact (((h.stored (k * 3) (.string r.name)).1.stored (k * 3 + 1) (.string r.safe)).1.stored (k * 3 + 2) r.ov).1
theorem below_put {w0 w : World} {B g : Nat} (h : Below B w0 w) (hg : B ≤ g) (k : Nat) (a b c : Value) :
    Below B w0 (((w.setCell ⟨g, k * 3, none⟩ a).setCell ⟨g, k * 3 + 1, none⟩ b).setCell ⟨g, k * 3 + 2, none⟩ c) :=
  ((h.setCell hg _).setCell hg _).setCell hg _
theorem crashRows_at (l : List Rw) (fs : List Ft) (k : Nat) (h : k < (crashRows l fs).length) (hk : k < l.length) : (crashRows l fs)[k] = crashRow l[k] fs[k]? := by
  simp [crashRows]

set_option maxHeartbeats 1000000 in
theorem crash_any (l : List Rw) (v : Value) (fs : List Ft) (fv : Value) (w : World) (hr : Reads w v 3 l.length (rowCells l)) (ho : Opens w l) (hf : Reads w fv 3 fs.length (ftCells fs)) (hwh : Wholes w fs)
    (hok : Okay l) (hreach : l.length * 56 ≤ 140737488355328) (hone : ∀ r ∈ l, r.ov.oneCell' = true) (_hmf : fs.length ≤ 9223372036854775807) :
    Calls Try.prog 16 #[.agg #[v], fv] w fun e w' => ∃ v', e = .returned (.agg #[v']) ∧ w'.ownsRow w.heap.size 35 3 v' l.length (rowCells (crashRows l fs)) ∧ Below w.heap.size w w' := by
  obtain ⟨p2, cap2, rfl⟩ := hf.is
  obtain ⟨i0, hi, hz0, hz1, hz2⟩ := info_parts (show (Try.prog.info? 35).map (fun i => (i.zero, i.size, i.bytes)) = some (some (.agg #[.string .empty, .string .empty, .slice none 0 0]), 3, 56) by kernel_rfl)
  have hone' : ∀ u ∈ rowCells l, u.oneCell' = true := by
    intro u hu
    obtain ⟨r, hr, hu⟩ := List.mem_flatMap.1 hu
    simp only [List.mem_cons, List.not_mem_nil, or_false] at hu
    rcases hu with rfl | rfl | rfl
    · rfl
    · rfl
    · exact hone r hr
  have HONE := Lib.hid hone'
  clear hone'
  go_enter Try.func16, Try.ntmps16
  go_wp2_with (at_builtin; refine wpList_append_copy rfl _ _ 22 rfl (w.heap.size + 2) 35 i0 (.agg #[.string .empty, .string .empty, .slice none 0 0]) 3 56 Try.underlying22 hi hz0 hz1 hz2 rfl (by decide) rfl _ rfl l.length (rowCells l) ?c1 HONE.out ?c2 ?c3 ?c4 ?_; rotate_right 1; intro q qc w5 hown5 hg5; have HO5 := Lib.hid hown5; clear hown5)
  case c1 => exact hr.below (below2 w _ _)
  case c2 => unfold maxLen; omega
  case c3 => exact hreach
  case c4 => simp
  have hlen : (crashRows l fs).length = l.length := by simp [crashRows]
  have Hlen := Lib.hid hlen
  clear hlen
  have hb5 : Below w.heap.size w w5 := (below2 w _ _).grown hg5 (by simp; omega) (fun k hk => by cases hk)
  have HB5 := Lib.hid hb5
  have hs5 : w.heap.size + 2 ≤ w5.heap.size := by have := hg5.size; simp at this; omega
  have r5 : w5.cell? ⟨w.heap.size + 1, 0, none⟩ = some (.slice none 0 0) := hg5.cell (a := ⟨w.heap.size + 1, 0, none⟩) (by simp) (by simp)
  have f5 : w5.frozen? ⟨w.heap.size + 1, 0, none⟩ = false := by
    rw [World.frozen?_of_block (w := (w.alloc (Obj.cells #[v] 24)).alloc (Obj.cells #[Value.slice none 0 0] 24)) (hg5.block _ (by simp) (by simp))]
    simp
  go_wp2_with fail
  go_loopw [14] (fun i wr => ∃ k : Nat, k ≤ l.length ∧ i = .int .i64 k ∧ Hid (wr.ownsRow (w.heap.size + 2) 35 3 (.slice q l.length qc) l.length (rowCells ((crashRows l fs).take k ++ l.drop k))) ∧ Below (w.heap.size + 2) w5 wr) (fun i _ => l.length - (intOf i).toNat)
  case atStart => exact ⟨0, Nat.zero_le _, rfl, HO5.out, Below.refl _ _⟩
  case round =>
    obtain ⟨k, hk, rfl, hown, hbl⟩ := hrel
    have hbw : Below w.heap.size w wr := HB5.out.trans (hbl.mono (by omega))
    have hlb := hbl.size
    have hlt2 : w.heap.size + 1 < wr.heap.size := by omega
    by_cases hlt : k < l.length
    · obtain ⟨g, hq, hg1, hg2, c0, c1, c2, fz⟩ := owns_file hown.out k (by simp [Hlen.out]; omega) (by omega)
      subst hq
      rw [mix_at _ _ _ (Hlen.out) hlt] at c0 c1 c2
      have hmem : l[k] ∈ l := List.getElem_mem _
      have hop := ho l[k] hmem
      obtain ⟨hk1, hk2, hk3⟩ := hok l[k] hmem
      obtain ⟨p3, cap3, hov⟩ := hop.is
      rw [hov] at c2 hop
      have HOP := Lib.hid (hop.below hbw)
      have HK2 := Lib.hid hk2
      have HBL := Lib.hid hbl
      have HBW := Lib.hid hbw
      have HHO := Lib.hid ho
      have HOK := Lib.hid hok
      clear hov hop hk2 hbl hbw ho hok
      by_cases hkf : k < fs.length
      · obtain ⟨b2, off2, cap4, hv, _, _, hb2, d0, d1, d2⟩ := (hf.below HBW.out).fate k hkf
        obtain ⟨rfl, rfl⟩ : p2 = some ⟨b2, off2, none⟩ ∧ cap2 = cap4 := by simpa using hv
        have hwk := hwh fs[k] (List.getElem_mem _)
        obtain ⟨p4, cap5, hwv⟩ := hwk.is
        rw [hwv] at d0 hwk
        have HWK := Lib.hid (hwk.below HBW.out)
        clear hwv hwk hv
        go_wp2_with fail
        go_region_with (go_at_call 25; refine (survivors_any l[k].opens _ fs[k].whole _ _ _ _ (HOP.out.below ((below1 _ _).drew)) (by omega) (HWK.out.below ((below1 _ _).drew)) hk3).mono ?_; rintro e w6 ⟨v6, n6, rfl, ho6, hb6⟩)
        all_goals
          have n0 := hb6.cell (p := ⟨wr.heap.size, 0, none⟩) (by simp)
          have n1 := hb6.cell (p := ⟨wr.heap.size, 1, none⟩) (by simp)
          have e0 := hb6.cell (p := ⟨g, k * 3, none⟩) (by simp; omega)
          have e1 := hb6.cell (p := ⟨g, k * 3 + 1, none⟩) (by simp; omega)
          have e2 := hb6.cell (p := ⟨g, k * 3 + 2, none⟩) (by simp; omega)
          have hcall : ∀ W, Below w6.heap.size w6 W → Calls Try.prog 26 #[.string l[k].safe, v6] W fun e w' => e = .returned (.string (layB l[k].safe (surv fs[k].whole fs[k].torn fs[k].nb 0 l[k].opens))) ∧ Below W.heap.size W w' := fun W hW =>
            lay_any _ _ _ _ ((owns_writes ho6).below hW) (by have := surv_length fs[k].whole fs[k].torn fs[k].nb l[k].opens 0; omega) hk1 (surv_bytes _ _ _ _ _ _ HK2.out)
          have HC := Lib.hid hcall
          clear hcall
          go_wp2_with fail
          go_region_with (go_at_call 26; refine (HC.out _ (Below.refl _ _).drew).mono ?_; rintro e w7 ⟨rfl, hb7⟩; have n2 := hb7.cell (p := ⟨wr.heap.size, 0, none⟩) (by have := hb6.size; simp at this; simp; omega); have e3 := hb7.cell (p := ⟨g, k * 3, none⟩) (by have := hb6.size; simp at this; simp; omega); have e4 := hb7.cell (p := ⟨g, k * 3 + 1, none⟩) (by have := hb6.size; simp at this; simp; omega); have e5 := hb7.cell (p := ⟨g, k * 3 + 2, none⟩) (by have := hb6.size; simp at this; simp; omega); have z0 := hb7.frozen (p := ⟨g, k * 3, none⟩) (by have := hb6.size; simp at this; simp; omega); have z1 := hb7.frozen (p := ⟨g, k * 3 + 1, none⟩) (by have := hb6.size; simp at this; simp; omega); have z2 := hb7.frozen (p := ⟨g, k * 3 + 2, none⟩) (by have := hb6.size; simp at this; simp; omega); have y0 := hb6.frozen (p := ⟨g, k * 3, none⟩) (by simp; omega); have y1 := hb6.frozen (p := ⟨g, k * 3 + 1, none⟩) (by simp; omega); have y2 := hb6.frozen (p := ⟨g, k * 3 + 2, none⟩) (by simp; omega))
          all_goals
            go_wp2_with fail
            go_roundw
            case rel =>
              have hbb : Below wr.heap.size wr w7 := below_then (below_then ((below1 wr _).drew) hb6) (below_then (Below.refl _ _).drew hb7)
              refine ⟨k + 1, by omega, by go_num, ?_, below_put (HBL.out.trans (hbb.mono (by omega))) hg1 _ _ _ _⟩
              have hput := owns_put (owns_below hown.out hbb) k (by simp [Hlen.out]; omega) (crashRow l[k] (some fs[k]))
              rw [← List.getElem?_eq_getElem (l := fs) (i := k) hkf, ← crashRows_at l fs k (by rw [Hlen.out]; exact hlt) hlt, mix_set _ _ _ Hlen.out hlt] at hput
              rw [crashRows_at l fs k (by rw [Hlen.out]; exact hlt) hlt, List.getElem?_eq_getElem (l := fs) (i := k) hkf] at hput
              exact hput
            case measure => simp [intOf]; omega
      · go_wp2_with fail
        go_region_with (go_at_call 26; refine (lay_any _ [] _ _ ⟨rfl, .inl ⟨rfl, rfl⟩⟩ (by simp) hk1 (by simp)).mono ?_; rintro e w6 ⟨rfl, hb6⟩; have n0 := hb6.cell (p := ⟨wr.heap.size, 0, none⟩) (by simp); have e0 := hb6.cell (p := ⟨g, k * 3, none⟩) (by simp; omega); have e1 := hb6.cell (p := ⟨g, k * 3 + 1, none⟩) (by simp; omega); have e2 := hb6.cell (p := ⟨g, k * 3 + 2, none⟩) (by simp; omega); have z0 := hb6.frozen (p := ⟨g, k * 3, none⟩) (by simp; omega); have z1 := hb6.frozen (p := ⟨g, k * 3 + 1, none⟩) (by simp; omega); have z2 := hb6.frozen (p := ⟨g, k * 3 + 2, none⟩) (by simp; omega))
        all_goals
          go_wp2_with fail
          go_roundw
          case rel =>
            refine ⟨k + 1, by omega, by go_num, ?_, below_put (HBL.out.trans ((below_then ((below1 wr _).drew) hb6).mono (by omega))) hg1 _ _ _ _⟩
            have hput := owns_put (owns_below hown.out (below_then ((below1 wr _).drew) hb6)) k (by simp [Hlen.out]; omega) (crashRow l[k] none)
            rw [← List.getElem?_eq_none (l := fs) (i := k) (by omega), ← crashRows_at l fs k (by rw [Hlen.out]; exact hlt) hlt, mix_set _ _ _ Hlen.out hlt] at hput
            rw [crashRows_at l fs k (by rw [Hlen.out]; exact hlt) hlt, List.getElem?_eq_none (l := fs) (i := k) (by omega)] at hput
            exact hput
          case measure => simp [intOf]; omega
    · have r6 := hbl.cell (p := ⟨w.heap.size + 1, 0, none⟩) (by simp)
      have f6 := hbl.frozen (p := ⟨w.heap.size + 1, 0, none⟩) (by simp)
      rw [r5] at r6
      rw [f5] at f6
      obtain rfl : k = l.length := by omega
      rw [List.drop_length, List.append_nil, ← Hlen.out, List.take_length, Hlen.out] at hown
      go_wp2_with fail
      exact bodyPost_ret (v := .agg #[.slice q l.length qc]) (by simp [results, Try.results16, go_sem, r6]) rfl
        ⟨_, rfl, owns_mono (ownsRow_setCell_below hown.out (by simp) _) (by omega), hbw.setCell (by simp) _⟩
end Go.Proofs.Ytfpdfhncifcghaa
