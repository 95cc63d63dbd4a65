/- DiskSafe: the walk. -/
import Derived.Test.YtfpdfhncifcghaaY
import Derived.BigQuiet
namespace Go.Proofs.Ytfpdfhncifcghaa
open Go.RowKit Go.Deep Go.Joins

theorem crashRows_length (l : List Rw) (fs : List Ft) : (crashRows l fs).length = l.length := by simp [crashRows]

/-- A world in which all that was there is as it was. -/
structure Near (w : World) where
  wx : World
  near : Below w.heap.size w wx
theorem wp_region_near {P : Program} {id : Nat} {Q : Exit → Act → World → Prop} {a : Act} {w : World} {l : List Oper} (hm : P.follows .mixedOrders = true) (hB : Region.lexB .any l.toArray = true)
    (h : wpQuiet P l.toArray (fun w' => ∃ p : Near w, w' = p.wx) (fun a' => ∀ w', (∃ p : Near w, w' = p.wx) → Q .normal a' w') l a) : (Code.region id l.toArray true).wp P Q a w :=
  wp_region_quiet (C := fun w' => ∃ p : Near w, w' = p.wx) hm hB ⟨⟨w.drew, (Below.refl _ _).drew⟩, rfl⟩ (by simpa using h)
theorem near_call {P : Program} {f : FuncId} {args : Array Value} {w : World} {p : Near w} {v : Value} (h : Calls P f args p.wx fun e w' => e = .returned v ∧ Below p.wx.heap.size p.wx w') :
    Calls P f args p.wx fun e w'' => e = .returned v ∧ ∃ p : Near w, w'' = p.wx :=
  h.mono fun _ _ ⟨he, hb⟩ => ⟨he, ⟨_, below_then p.near hb⟩, rfl⟩

/-- Disk and crashed disk lie as they should. -/
structure SafeAt (w wr : World) (l : List Rw) (fs : List Ft) (v v' : Value) (B : Nat) : Prop where
  below : Below w.heap.size w wr
  lt : w.heap.size < wr.heap.size
  one : wr.cell? ⟨w.heap.size, 0, none⟩ = some v
  ltB : B < wr.heap.size
  two : wr.cell? ⟨B, 0, none⟩ = some v'
  rows : Reads wr v' 3 l.length (rowCells (crashRows l fs))
theorem SafeAt.next {w wr wx : World} {l : List Rw} {fs : List Ft} {v v' : Value} {B : Nat} (h : SafeAt w wr l fs v v' B) (hb : Below wr.heap.size wr wx) : SafeAt w wx l fs v v' B :=
  ⟨below_then h.below hb, Nat.lt_of_lt_of_le h.lt hb.size, below_cell hb h.one, Nat.lt_of_lt_of_le h.ltB hb.size, below_cell hb h.two, h.rows.below hb⟩

set_option maxRecDepth 100000 in
set_option maxHeartbeats 1000000 in
theorem safe_any (l : List Rw) (v : Value) (fs : List Ft) (fv : Value) (w : World) (hr : Reads w v 3 l.length (rowCells l)) (ho : Opens w l) (hf : Reads w fv 3 fs.length (ftCells fs)) (hwh : Wholes w fs)
    (hok : Okay l) (hreach : l.length * 56 ≤ 140737488355328) (hone : ∀ r ∈ l, r.ov.oneCell' = true) (hmf : fs.length ≤ 9223372036854775807) :
    Calls Try.prog 6 #[.agg #[v], fv] w fun e w' => e = .returned (.bool true) ∧ Below w.heap.size w w' := by
  obtain ⟨p, cap, rfl⟩ := hr.is
  obtain ⟨p2, cap2, rfl⟩ := hf.is
  go_enter Try.func6, Try.ntmps6
  go_wp2_with fail
  refine (awake_any _).mono ?_
  rintro e w1 ⟨rfl, hb1⟩
  have hbw1 := below_then (below1 w _) hb1
  have f0 := hb1.cell (p := ⟨w.heap.size, 0, none⟩) (by simp)
  rw [World.cell?_alloc_new] at f0
  have hs1 := hb1.size
  have HBW1 := Lib.hid hbw1
  clear hbw1 hb1
  go_wp2_with fail
  refine (crash_any l _ fs _ _ (hr.below HBW1.out) (ho.below HBW1.out) (hf.below HBW1.out) (fun r h => (hwh r h).below HBW1.out) hok hreach hone hmf).mono ?_
  rintro e w2 ⟨v', rfl, hown, hb2⟩
  obtain ⟨q, n, qc, rfl, hn⟩ : ∃ q n qc, v' = .slice q n qc ∧ n = l.length := by
    rcases hown.2 with ⟨h1, h2⟩ | ⟨g, c, cur, h1, _⟩
    · exact ⟨_, _, _, h1, h2.symm⟩
    · exact ⟨_, _, _, h1, rfl⟩
  subst hn
  have hrd := reads_of_owns hown
  have f1 := hb2.cell (p := ⟨w.heap.size, 0, none⟩) (by simp at hs1; simp; omega)
  rw [f0] at f1
  have hs2 := hb2.size
  have HBW2 := Lib.hid (below_then HBW1.out hb2)
  have HRD := Lib.hid hrd
  clear hb2 hown hrd
  have hS : SafeAt w (w2.alloc (.cells #[.slice q l.length qc] 24)) l fs (.slice p l.length cap) (.slice q l.length qc) w2.heap.size := by
    simp at hs1
    exact ⟨HBW2.out.alloc (by omega) _, by simp; omega, (World.cell?_alloc_old _ _ _ (by simp; omega)).trans f1, by simp, by simp, HRD.out.below (below1 w2 _)⟩
  have HS := Lib.hid hS
  clear hS
  have hlt2 : w.heap.size < w2.heap.size := by simp at hs1; omega
  clear hs1 hs2
  go_wp2_with fail
  go_loopw [6] (fun j wr => ∃ i : Nat, i ≤ l.length ∧ j = .int .i64 i ∧ Hid (SafeAt w wr l fs (.slice p l.length cap) (.slice q l.length qc) w2.heap.size)) (fun j _ => l.length - (intOf j).toNat)
  case atStart => exact ⟨0, Nat.zero_le _, rfl, HS⟩
  case round =>
    obtain ⟨i, hi, rfl, hat⟩ := hrel
    obtain ⟨wo, hwo⟩ : ∃ wo, wo = wr := ⟨_, rfl⟩
    subst hwo
    have g0 := hat.out.lt
    have g1 := hat.out.one
    have g2 := hat.out.ltB
    have g3 := hat.out.two
    by_cases hlt : i < l.length
    · obtain ⟨b1, off1, cap1, hv, _, _, hb1, c0, c1, c2⟩ := (hr.below hat.out.below).file i hlt
      obtain ⟨rfl, rfl⟩ : p = some ⟨b1, off1, none⟩ ∧ cap = cap1 := by simpa using hv
      have hop := (ho l[i] (List.getElem_mem _)).below hat.out.below
      obtain ⟨p3, cap3, hov⟩ := hop.is
      rw [hov] at c2 hop
      have HOP := Lib.hid hop
      clear hov hop
      have hrw := hat.out.rows
      rw [← crashRows_length l fs] at hrw
      obtain ⟨b2, off2, cap2, hv2, _, _, hb2, d0, d1, d2⟩ := hrw.file i (by rw [crashRows_length]; exact hlt)
      obtain ⟨rfl, rfl⟩ : q = some ⟨b2, off2, none⟩ ∧ qc = cap2 := by simpa using hv2
      rw [crashRows_at l fs i _ hlt] at d0 d1 d2
      obtain ⟨k1, k2⟩ := crash_keep l[i] fs[i]?
      have hnm : (crashRow l[i] fs[i]?).name = l[i].name := rfl
      rw [hnm] at d0
      generalize hcs : crashRow l[i] fs[i]? = cr at *
      have HK := Lib.hid k2
      clear hv hv2 hrw k2 d2 hnm
      go_wp2_with fail
      have n1 : decide ((cr.safe.size : Int) < (l[i].safe.size : Int)) = false := decide_eq_false (by omega)
      have n2 : ¬ ((cr.safe.size : Int) < (l[i].safe.size : Int)) := by omega
      have n3 : ¬ (cr.safe.size < l[i].safe.size) := by omega
      go_region
      clear n1 n2 n3
      go_wp2_with fail
      go_loopw [8] (fun j wq => ∃ k : Nat, k ≤ l[i].safe.size ∧ j = .int .i64 k ∧ Below (wo.heap.size + 1) (wo.alloc (.cells #[.string l[i].name, .string l[i].safe, .slice p3 l[i].opens.length cap3] 35)) wq) (fun j _ => l[i].safe.size - (intOf j).toNat)
      case atStart => exact ⟨0, Nat.zero_le _, rfl, (Below.refl _ _).drew⟩
      case round =>
        obtain ⟨k, hk, rfl, hbl⟩ := hrel
        have hbw : Below wo.heap.size wo wr := (below1 wo _).trans (hbl.mono (by omega))
        have hat2 := hat.out.next hbw
        have hlb := hbl.size
        rw [World.size_alloc] at hlb
        have hlt3 : wo.heap.size < wr.heap.size := by omega
        have x0 := hbl.cell (p := ⟨wo.heap.size, 0, none⟩) (by simp)
        have x1 := hbl.cell (p := ⟨wo.heap.size, 1, none⟩) (by simp)
        have x2 := hbl.cell (p := ⟨wo.heap.size, 2, none⟩) (by simp)
        rw [World.cell?_alloc_new] at x0 x1 x2
        simp only [List.getElem?_toArray, List.getElem?_cons_zero, List.getElem?_cons_succ] at x0 x1 x2
        have h0 := hat2.lt
        have h1 := hat2.one
        have h2 := hat2.ltB
        have h3 := hat2.two
        have d3 := below_cell hbw d1
        have hb3 : b2 < wr.heap.size := lt_of_cell d3
        have HBL := Lib.hid hbl
        have HBW := Lib.hid hbw
        clear c0 c1 c2 d0 d1 hbl hbw hat2
        by_cases hlk : k < l[i].safe.size
        · have hcalls : ∀ W, Below wr.heap.size wr W → Calls Try.prog 21 #[.agg #[.string l[i].name, .string l[i].safe, .slice p3 l[i].opens.length cap3], .int .i64 k] W fun e w' => e = .returned (.bool (covs l[i].opens k)) ∧ Below W.heap.size W w' := fun W hW =>
            covered_any _ _ l[i].opens _ k W ((HOP.out.below HBW.out).below hW) (by have := (hok l[i] (List.getElem_mem _)).2.2; omega) (by have := (hok l[i] (List.getElem_mem _)).1; omega)
          have HC := Lib.hid hcalls
          clear hcalls
          have HLK := Lib.hid hlk
          have hkm : k ≤ 140737489403904 := by have := (hok l[i] (List.getElem_mem _)).1; omega
          rcases Bool.eq_false_or_eq_true (covs l[i].opens k) with hc | hc
          · rw [hc] at HC
            go_wp2_with fail
            have y0 : ∀ p : Near wr, p.wx.cell? ⟨wo.heap.size, 0, none⟩ = some (.string l[i].name) := fun p => below_cell p.near x0
            have y1 : ∀ p : Near wr, p.wx.cell? ⟨wo.heap.size, 1, none⟩ = some (.string l[i].safe) := fun p => below_cell p.near x1
            have y2 : ∀ p : Near wr, p.wx.cell? ⟨wo.heap.size, 2, none⟩ = some (.slice p3 l[i].opens.length cap3) := fun p => below_cell p.near x2
            have y3 : ∀ p : Near wr, p.wx.cell? ⟨w2.heap.size, 0, none⟩ = some (.slice (some ⟨b2, off2, none⟩) l.length qc) := fun p => below_cell p.near h3
            have y4 : ∀ p : Near wr, p.wx.cell? ⟨b2, off2 + i * 3 + 1, none⟩ = some (.string cr.safe) := fun p => below_cell p.near d3
            have hne : Nonempty (Near wr) := ⟨⟨wr, Below.refl _ _⟩⟩
            refine wp_region_near (by kernel_rfl) (by kernel_rfl) ?_
            repeat (go_big_quiet_step ((go_at_call 21; exact near_call (HC.out _ (Near.near _)))))
            refine wpQuiet_nil ?_
            rintro _ ⟨pn, rfl⟩
            go_wp2_with fail
            go_round
            case rel => exact ⟨k + 1, HLK.out, by go_num, HBL.out.trans (pn.near.mono (by omega))⟩
            case measure => have := HLK.out; simp [intOf]; omega
          · rw [hc] at HC
            obtain ⟨hkc, heq⟩ := HK.out k hlk hc
            go_wp2_with fail
            have y0 : ∀ p : Near wr, p.wx.cell? ⟨wo.heap.size, 0, none⟩ = some (.string l[i].name) := fun p => below_cell p.near x0
            have y1 : ∀ p : Near wr, p.wx.cell? ⟨wo.heap.size, 1, none⟩ = some (.string l[i].safe) := fun p => below_cell p.near x1
            have y2 : ∀ p : Near wr, p.wx.cell? ⟨wo.heap.size, 2, none⟩ = some (.slice p3 l[i].opens.length cap3) := fun p => below_cell p.near x2
            have y3 : ∀ p : Near wr, p.wx.cell? ⟨w2.heap.size, 0, none⟩ = some (.slice (some ⟨b2, off2, none⟩) l.length qc) := fun p => below_cell p.near h3
            have y4 : ∀ p : Near wr, p.wx.cell? ⟨b2, off2 + i * 3 + 1, none⟩ = some (.string cr.safe) := fun p => below_cell p.near d3
            have hne : Nonempty (Near wr) := ⟨⟨wr, Below.refl _ _⟩⟩
            refine wp_region_near (by kernel_rfl) (by kernel_rfl) ?_
            repeat (go_big_quiet_step ((go_at_call 21; exact near_call (HC.out _ (Near.near _)))))
            refine wpQuiet_nil ?_
            rintro _ ⟨pn, rfl⟩
            go_wp2_with fail
            go_round
            case rel => exact ⟨k + 1, HLK.out, by go_num, HBL.out.trans (pn.near.mono (by omega))⟩
            case measure => have := HLK.out; simp [intOf]; omega
        · go_wp2_with fail
          go_round
          case rel => exact ⟨i + 1, by omega, by go_num, hat.out.next HBW.out⟩
          case measure => simp [intOf]; omega
    · have HB := Lib.hid hat.out.below
      go_wp2
      go_ret
      exact ⟨rfl, HB.out⟩
end Go.Proofs.Ytfpdfhncifcghaa
