/- Of neighbours of one number the first is kept. -/
import Derived.Test.YtkecjopojnllnaaL
namespace Go.Proofs.Ytkecjopojnllnaa
open Go.RowKit Go.Deep Go.Joins

def dedupF (v : Int) : List Sg → List Sg
  | [] => []
  | x :: r => if x.num = v then dedupF v r else x :: dedupF x.num r
def dedup : List Sg → List Sg
  | [] => []
  | x :: r => x :: dedupF x.num r
/-- The number that the next one is held against. -/
def lastN (v : Int) : List Sg → Int
  | [] => v
  | x :: r => lastN x.num r
def addU (v : Int) (x : Sg) : List Sg := if x.num = v then [] else [x]
theorem dedupF_snoc (v : Int) (l : List Sg) (x : Sg) : dedupF v (l ++ [x]) = dedupF v l ++ addU (lastN v l) x := by
  induction l generalizing v with
  | nil => rfl
  | cons y r ih =>
    have e1 : dedupF v (y :: r ++ [x]) = if y.num = v then dedupF v (r ++ [x]) else y :: dedupF y.num (r ++ [x]) := rfl
    have e2 : dedupF v (y :: r) = if y.num = v then dedupF v r else y :: dedupF y.num r := rfl
    have e3 : lastN v (y :: r) = lastN y.num r := rfl
    rw [e1, e2, e3]
    by_cases h : y.num = v
    · rw [if_pos h, if_pos h, ih v, h]
    · rw [if_neg h, if_neg h, ih y.num, List.cons_append]
theorem lastN_snoc (v : Int) (l : List Sg) (x : Sg) : lastN v (l ++ [x]) = x.num := by
  induction l generalizing v with
  | nil => rfl
  | cons y r ih => exact ih y.num
theorem lastN_take (v : Int) (l : List Sg) (k : Nat) (hk : 0 < k) (h : k ≤ l.length) : lastN v (l.take k) = kn l (k - 1) := by
  obtain ⟨j, rfl⟩ : ∃ j, k = j + 1 := ⟨k - 1, by omega⟩
  rw [List.take_succ_eq_append_getElem (by omega), lastN_snoc, show j + 1 - 1 = j by omega, kn_at (by omega)]
theorem dedup_snoc {l : List Sg} {k : Nat} (h0 : 0 < k) (h : k < l.length) : dedup (l.take (k + 1)) = dedup (l.take k) ++ addU (kn l (k - 1)) l[k] := by
  cases l with
  | nil => simp at h
  | cons x r =>
    obtain ⟨j, rfl⟩ : ∃ j, k = j + 1 := ⟨k - 1, by omega⟩
    have hj : j < r.length := by simpa using h
    show x :: dedupF x.num (r.take (j + 1)) = x :: dedupF x.num (r.take j) ++ _
    rw [List.take_succ_eq_append_getElem hj, dedupF_snoc, List.cons_append]
    have e2 : lastN x.num (r.take j) = kn (x :: r) (j + 1 - 1) := by
      cases j with
      | zero => rfl
      | succ i =>
        rw [lastN_take _ _ _ (by omega) (by omega)]
        show kn r i = kn (x :: r) (i + 1)
        unfold kn
        rfl
    rw [← e2]
    rfl
theorem dedup_len (l : List Sg) : (dedup l).length ≤ l.length := by
  have h : ∀ (v : Int) (l : List Sg), (dedupF v l).length ≤ l.length := by
    intro v l
    induction l generalizing v with
    | nil => exact Nat.le_refl _
    | cons x r ih =>
      simp only [dedupF]
      split
      · exact Nat.le_succ_of_le (ih v)
      · exact Nat.succ_le_succ (ih x.num)
  cases l with
  | nil => exact Nat.le_refl _
  | cons x r => exact Nat.succ_le_succ (h x.num r)
theorem eq_any (x y : Sg) (w : World) : Calls Try.prog 54 #[x.val, y.val] w fun e w' => e = .returned (.bool (x.num == y.num)) ∧ Below w.heap.size w w' := by
  unfold Sg.val
  go_enter Try.func54, Try.ntmps54
  go_wp2_with fail
  go_ret
  exact ⟨rfl, below2 w _ _⟩
abbrev eqV : Value := .func (.func 54) #[] #[]
theorem OwnS.capn {w : World} {B g n cap : Nat} {l : List Sg} (h : OwnS w B g n cap l) : n ≤ cap := by
  rcases h.2.2 with ⟨h1, _⟩ | ⟨g', cap', cur, h1, _, _, h3, _⟩
  · cases h1
  · simp only [Value.slice.injEq, true_and] at h1
    rw [h1.2]; exact h3
theorem OwnS.capm {w : World} {B g n cap : Nat} {l : List Sg} (h : OwnS w B g n cap l) : cap ≤ maxLen := by
  rcases h.2.2 with ⟨h1, _⟩ | ⟨g', cap', cur, h1, _, _, _, h4, _⟩
  · cases h1
  · simp only [Value.slice.injEq, true_and] at h1
    rw [h1.2]; exact h4

theorem zero_one4 (n : Nat) : ∀ u ∈ (Builtin.zeroCells (Value.agg #[.int .i64 0, .string .empty, .string .empty, .slice none 0 0]).cells n).toList, u.oneCell' = true := by
  intro u hu
  unfold Builtin.zeroCells at hu
  rw [Array.toList_map] at hu
  obtain ⟨i, _, rfl⟩ := List.mem_map.1 hu
  have h4 : (Value.agg #[.int .i64 0, .string .empty, .string .empty, .slice none 0 0]).cells = #[.int .i64 0, .string .empty, .string .empty, .slice none 0 0] := rfl
  rw [h4]
  have hs : i % (#[Value.int .i64 0, .string .empty, .string .empty, .slice none 0 0] : Array Value).size < 4 := Nat.mod_lt _ (by decide)
  generalize i % (#[Value.int .i64 0, .string .empty, .string .empty, .slice none 0 0] : Array Value).size = r at hs
  obtain rfl | rfl | rfl | rfl : r = 0 ∨ r = 1 ∨ r = 2 ∨ r = 3 := by omega
  all_goals rfl

set_option maxRecDepth 100000 in
set_option maxHeartbeats 2000000 in
theorem compact_any (l : List Sg) (B g n cap : Nat) (w : World) (h : OwnS w B g n cap l) (hn : n ≤ 1152921504606846976) :
    Calls Try.prog 53 #[.slice (some ⟨g, 0, none⟩) n cap, eqV] w fun e w' => ∃ m, e = .returned (.slice (some ⟨g, 0, none⟩) m cap) ∧ OwnS w' B g m cap (dedup l) ∧ w.grownBy w' (some g) := by
  have H := Lib.hid h
  have hl := h.1
  by_cases h2 : n < 2
  · have h2' : (n : Int) < 2 := by omega
    have hd : dedup l = l := by
      match l, hl with
      | [], _ => rfl
      | [x], _ => rfl
      | x :: y :: r, hl => simp at hl; omega
    have HD := Lib.hid hd
    clear h hl hd
    go_enter Try.func53, Try.ntmps53
    go_wp2_with fail
    go_ret
    exact ⟨n, rfl, by rw [HD.out]; exact H.out, grown_refl _ _⟩
  · have h2' : ¬ (n : Int) < 2 := by omega
    have HL := Lib.hid hl
    clear h hl
    go_enter Try.func53, Try.ntmps53
    go_wp2_with fail
    go_loopw [5] (fun i wr => ∃ k : Nat, i = .int .i64 (k : Int) ∧ 1 ≤ k ∧ k ≤ n ∧ Hid (dedup (l.take k) = l.take k) ∧ Hid (OwnS wr B g n cap l) ∧ Hid (w.grownBy wr (some g))) (fun i _ => n - (intOf i).toNat)
    case atStart =>
      refine ⟨1, rfl, Nat.le_refl _, by omega, ?_, H.out, grown_refl _ _⟩
      show _ = _
      cases l with
      | nil => rfl
      | cons x r => rfl
    case round =>
      obtain ⟨k, rfl, hk1, hkn, hdd, how, hgr⟩ := hrel
      obtain ⟨wo, hwo⟩ : ∃ wo, wo = wr := ⟨_, rfl⟩
      subst hwo
      by_cases hlt : k < n
      · obtain ⟨j, rfl⟩ : ∃ j, k = j + 1 := ⟨k - 1, by omega⟩
        have hjl : j + 1 < l.length := by have := HL.out; omega
        obtain ⟨x, hx⟩ : ∃ x, l[j + 1] = x := ⟨_, rfl⟩
        obtain ⟨y, hy⟩ : ∃ y, l[j] = y := ⟨_, rfl⟩
        have hcel := how.out.cells8 (i := j + 1) (j := j) (x := x) (y := y) ⟨by omega, hx⟩ ⟨by omega, hy⟩
        have kx : kn l (j + 1) = x.num := by rw [kn_at (by omega), hx]
        have ky : kn l j = y.num := by rw [kn_at (by omega), hy]
        have HX := Lib.hid hx
        have KX := Lib.hid kx
        have KY := Lib.hid ky
        have HCEL := Lib.hid hcel
        have b1 : (j : Int) + 1 < (n : Int) := by omega
        have b2 : (j : Int) < (n : Int) := by omega
        have b4 : (0 : Int) ≤ (j : Int) + 1 := by omega
        have b5 : ((j : Int) + 1).toNat = j + 1 := by omega
        have w3 : IntKind.i64.wrap ((j : Int) + 1 - 1) = (j : Int) := by rw [show (j : Int) + 1 - 1 = (j : Int) by omega]; exact IntWalk.i64_in _ (by omega)
        have w4 : IntKind.i64.wrap (j : Int) = (j : Int) := IntWalk.i64_in _ (by omega)
        have lg := how.out.lt.2
        obtain ⟨c0, c1, c2, c3, d0, d1, d2, d3⟩ := hcel wo (nb_refl _)
        have hs1 := hcel wo.drew (nb_drew (nb_refl _))
        unfold Cells8 at hs1
        clear hcel hx hy kx ky
        go_wp2_with fail
        go_region_held3 (fun W => W.cell? ⟨g, (j + 1) * 4, none⟩ = some (.int .i64 x.num) ∧ W.cell? ⟨g, (j + 1) * 4 + 1, none⟩ = some (.string x.name) ∧ W.cell? ⟨g, (j + 1) * 4 + 2, none⟩ = some (.string x.safe) ∧ W.cell? ⟨g, (j + 1) * 4 + 3, none⟩ = some x.ov ∧ W.cell? ⟨g, j * 4, none⟩ = some (.int .i64 y.num) ∧ W.cell? ⟨g, j * 4 + 1, none⟩ = some (.string y.name) ∧ W.cell? ⟨g, j * 4 + 2, none⟩ = some (.string y.safe) ∧ W.cell? ⟨g, j * 4 + 3, none⟩ = some y.ov)
          (first | exact hs1 | exact HCEL.out _ (nb_refl _) | exact HCEL.out _ N2)
          (first | (go_at_call 54; refine (eq_any x y _).mono ?_; rintro e2 w2 ⟨rfl, hb2⟩; have N2 := below_then (nb_drew (nb_refl wo)) hb2) | fail)
        have HW2 := Lib.hid (how.out.below N2)
        have HG2 := Lib.hid (grown_trans hgr.out (below_grownBy (row := some g) N2))
        clear c0 c1 c2 c3 d0 d1 d2 d3 lg hs1 HCEL N2 hb2 how hgr
        by_cases hc : x.num = y.num
        · have hcb : (x.num == y.num) = true := by simpa using hc
          obtain ⟨k, hk⟩ : ∃ k, j + 1 = k := ⟨_, rfl⟩
          have hkI : (j : Int) + 1 = (k : Int) := by omega
          have hkn2 : k < n := by omega
          have hk1b : 1 ≤ k := by omega
          have hdk : dedup (l.take (k + 1)) = l.take k := by
            have e9 : addU (kn l (k - 1)) (l[k]'(by omega)) = [] := by
              have hx2 := HX.out
              subst hk
              unfold addU
              rw [if_pos]
              rw [show j + 1 - 1 = j by omega, KY.out, hx2]
              exact hc
            rw [dedup_snoc (by omega) (by omega), e9, List.append_nil, ← hk]
            exact hdd.out
          rw [hcb, hkI]
          have hcap := HW2.out.capn
          have hck : ¬ cap = k := by omega
          have i1 : (0 : Int) ≤ (k : Int) := by omega
          have i2 : (k : Int) ≤ (n : Int) := by omega
          have i3 : (n : Int) ≤ (cap : Int) := by omega
          have hcm : cap ≤ 9223372036854775807 := by have := HW2.out.capm; unfold maxLen at this; omega
          have HDK := Lib.hid hdk
          have hln : l.length = n := HL.out.symm
          have HLN := Lib.hid hln
          clear hdk hkI hk hcb hc HX KX KY hdd b1 b2 b4 b5 w3 w4 hjl hln hlt hk1 hkn
          go_wp2_with fail
          go_loopw [7, 5] (fun a b wr => ∃ (q i : Nat) (cur : List Sg), a = .int .i64 (q : Int) ∧ b = .int .i64 (i : Int) ∧ 1 ≤ q ∧ k + q ≤ n ∧ k ≤ i ∧ i + 1 ≤ k + q ∧ Hid (cur.take i = dedup (l.take (k + q)) ∧ cur.drop (k + q - 1) = l.drop (k + q - 1) ∧ cur.length = l.length) ∧ Hid (OwnS wr B g n cap cur) ∧ Hid (w.grownBy wr (some g))) (fun a _ _ => n - (intOf a).toNat)
          case atStart =>
            exact ⟨1, k, l, rfl, rfl, Nat.le_refl _, by omega, Nat.le_refl _, Nat.le_refl _, ⟨HDK.out.symm, rfl, rfl⟩, HW2.out, HG2.out⟩
          case round =>
            obtain ⟨q, i, cur, rfl, rfl, hq1, hqn, hki, hiq, hcu, how2, hgr2⟩ := hrel
            obtain ⟨wp, hwp⟩ : ∃ wp, wp = wr := ⟨_, rfl⟩
            subst hwp
            by_cases hlt : k + q < n
            · obtain ⟨q', rfl⟩ : ∃ q', q = q' + 1 := ⟨q - 1, by omega⟩
              have hlc : cur.length = n := by rw [hcu.out.2.2]; exact HLN.out
              have hll : k + (q' + 1) < l.length := by have := HLN.out; omega
              obtain ⟨x, hx⟩ : ∃ x, l[k + (q' + 1)] = x := ⟨_, rfl⟩
              obtain ⟨y, hy⟩ : ∃ y, l[k + q']'(by omega) = y := ⟨_, rfl⟩
              have cget : ∀ r (h1 : k + q' ≤ r) (h2 : r < cur.length) (h3 : r < l.length), cur[r] = l[r] := fun r h1 h2 h3 => by
                have hd := hcu.out.2.1
                have e1 := List.getElem?_drop (xs := cur) (i := k + (q' + 1) - 1) (j := r - (k + q'))
                have e2 := List.getElem?_drop (xs := l) (i := k + (q' + 1) - 1) (j := r - (k + q'))
                rw [hd, e2, show k + (q' + 1) - 1 + (r - (k + q')) = r by omega, List.getElem?_eq_getElem h2, List.getElem?_eq_getElem h3] at e1
                exact (Option.some.inj e1).symm
              have cx : cur[k + (q' + 1)]'(by omega) = x := by rw [cget _ (by omega) (by omega) hll]; exact hx
              have cy : cur[k + q']'(by omega) = y := by rw [cget _ (by omega) (by omega) (by omega)]; exact hy
              have hcel := how2.out.cells8 (i := k + (q' + 1)) (j := k + q') (x := x) (y := y) ⟨by omega, cx⟩ ⟨by omega, cy⟩
              have kx : kn l (k + (q' + 1)) = x.num := by rw [kn_at hll, hx]
              have ky : kn l (k + q') = y.num := by rw [kn_at (by omega), hy]
              have hcel2 : ∀ W, Below wp.heap.size wp W → W.cell? ⟨g, k * 4 + (q' + 1) * 4, none⟩ = some (.int .i64 x.num) ∧ W.cell? ⟨g, k * 4 + (q' + 1) * 4 + 1, none⟩ = some (.string x.name) ∧ W.cell? ⟨g, k * 4 + (q' + 1) * 4 + 2, none⟩ = some (.string x.safe) ∧ W.cell? ⟨g, k * 4 + (q' + 1) * 4 + 3, none⟩ = some x.ov ∧ W.cell? ⟨g, k * 4 + q' * 4, none⟩ = some (.int .i64 y.num) ∧ W.cell? ⟨g, k * 4 + q' * 4 + 1, none⟩ = some (.string y.name) ∧ W.cell? ⟨g, k * 4 + q' * 4 + 2, none⟩ = some (.string y.safe) ∧ W.cell? ⟨g, k * 4 + q' * 4 + 3, none⟩ = some y.ov := fun W hW => by
                have h0 := hcel W hW
                unfold Cells8 at h0
                rw [Nat.add_mul, Nat.add_mul k q' 4] at h0
                exact h0
              have HX := Lib.hid hx
              have KX := Lib.hid kx
              have KY := Lib.hid ky
              have HCEL := Lib.hid hcel2
              have b1 : (q' : Int) + 1 < ((n - k : Nat) : Int) := by omega
              have b2 : (q' : Int) < ((n - k : Nat) : Int) := by omega
              have b4 : (0 : Int) ≤ (q' : Int) + 1 := by omega
              have b5 : ((q' : Int) + 1).toNat = q' + 1 := by omega
              have w3 : IntKind.i64.wrap ((q' : Int) + 1 - 1) = (q' : Int) := by rw [show (q' : Int) + 1 - 1 = (q' : Int) by omega]; exact IntWalk.i64_in _ (by omega)
              have w4 : IntKind.i64.wrap (q' : Int) = (q' : Int) := IntWalk.i64_in _ (by omega)
              have w5 : IntKind.i64.wrap ((i : Int) + 1) = (i : Int) + 1 := IntWalk.i64_in _ (by omega)
              have w6 : IntKind.i64.wrap ((q' : Int) + 1 + 1) = (q' : Int) + 1 + 1 := IntWalk.i64_in _ (by omega)
              have lg := how2.out.lt.2
              have hs1 := hcel2 wp.drew (nb_drew (nb_refl _))
              obtain ⟨c0, c1, c2, c3, d0, d1, d2, d3⟩ := hcel2 wp (nb_refl _)
              clear hcel hcel2 hx hy kx ky cx cy cget hlc
              go_wp2_with fail
              go_region_held3 (fun W => W.cell? ⟨g, k * 4 + (q' + 1) * 4, none⟩ = some (.int .i64 x.num) ∧ W.cell? ⟨g, k * 4 + (q' + 1) * 4 + 1, none⟩ = some (.string x.name) ∧ W.cell? ⟨g, k * 4 + (q' + 1) * 4 + 2, none⟩ = some (.string x.safe) ∧ W.cell? ⟨g, k * 4 + (q' + 1) * 4 + 3, none⟩ = some x.ov ∧ W.cell? ⟨g, k * 4 + q' * 4, none⟩ = some (.int .i64 y.num) ∧ W.cell? ⟨g, k * 4 + q' * 4 + 1, none⟩ = some (.string y.name) ∧ W.cell? ⟨g, k * 4 + q' * 4 + 2, none⟩ = some (.string y.safe) ∧ W.cell? ⟨g, k * 4 + q' * 4 + 3, none⟩ = some y.ov)
                (first | exact hs1 | exact HCEL.out _ (nb_refl _) | exact HCEL.out _ N2)
                (first | (go_at_call 54; refine (eq_any x y _).mono ?_; rintro e2 w2 ⟨rfl, hb2⟩; have N2 := below_then (nb_drew (nb_refl wp)) hb2) | fail)
              have HW3 := Lib.hid (how2.out.below N2)
              have HG3 := Lib.hid (grown_trans hgr2.out (below_grownBy (row := some g) N2))
              have hcells3 := HCEL.out _ N2
              clear c0 c1 c2 c3 d0 d1 d2 d3 lg hs1 HCEL N2 hb2 how2 hgr2 HW2 HG2
              by_cases hc : x.num = y.num
              · have hcb : (!(x.num == y.num)) = false := by simp [hc]
                rw [hcb]
                clear hcells3
                go_wp2_with fail
                go_roundw
                case rel =>
                  have hll : k + (q' + 1) < l.length := by have := HLN.out; omega
                  refine ⟨q' + 1 + 1, i, cur, by go_num, rfl, by omega, by omega, hki, by omega, ⟨?_, ?_, hcu.out.2.2⟩, HW3.out, HG3.out⟩
                  · have e9 : addU (kn l (k + (q' + 1) - 1)) (l[k + (q' + 1)]) = [] := by unfold addU; rw [if_pos]; rw [show k + (q' + 1) - 1 = k + q' by omega, KY.out, HX.out]; exact hc
                    rw [show k + (q' + 1 + 1) = k + (q' + 1) + 1 by omega, dedup_snoc (by omega) hll, e9, List.append_nil]
                    exact hcu.out.1
                  · have h0 := congrArg (List.drop 1) hcu.out.2.1
                    rw [List.drop_drop, List.drop_drop] at h0
                    rw [show k + (q' + 1 + 1) - 1 = k + (q' + 1) - 1 + 1 by omega]
                    exact h0
                case measure => simp [intOf]; omega
              · have hcb : (!(x.num == y.num)) = true := by simp [hc]
                rw [hcb]
                have hic : i < cur.length := by rw [hcu.out.2.2]; have := HLN.out; omega
                obtain ⟨z, hz⟩ : ∃ z, cur[i] = z := ⟨_, rfl⟩
                obtain ⟨g0, g1, g2, g3⟩ := HW3.out.at i hic
                rw [hz] at g0 g1 g2 g3
                obtain ⟨c0, c1, c2, c3, d0, d1, d2, d3⟩ := hcells3
                have f0 := HW3.out.fz (i * 4)
                have f1 := HW3.out.fz (i * 4 + 1)
                have f2 := HW3.out.fz (i * 4 + 2)
                have f3 := HW3.out.fz (i * 4 + 3)
                have lg2 := HW3.out.lt.2
                have b7 : (i : Int) < (n : Int) := by omega
                have hst := HW3.out.store hic x
                have hgr4 := grown_set (grown_set (grown_set (grown_set HG3.out (.inl rfl) (i * 4) (.int .i64 x.num)) (.inl rfl) (i * 4 + 1) (.string x.name)) (.inl rfl) (i * 4 + 2) (.string x.safe)) (.inl rfl) (i * 4 + 3) x.ov
                have HST := Lib.hid hst
                have HGR4 := Lib.hid hgr4
                have HNE := Lib.hid hc
                clear hz hst hgr4 hc hcb
                go_wp2_with fail
                case roundEnd =>
                  have hll2 : k + (q' + 1) < l.length := by have := HLN.out; omega
                  refine ⟨⟨q' + 1 + 1, i + 1, cur.set i x, by go_num, by go_num, by omega, by omega, by omega, by omega, ⟨?_, ?_, by rw [List.length_set]; exact hcu.out.2.2⟩, HST.out, HGR4.out⟩, by simp [intOf]; omega⟩
                  · have e9 : addU (kn l (k + (q' + 1) - 1)) (l[k + (q' + 1)]) = [x] := by unfold addU; rw [if_neg, HX.out]; rw [show k + (q' + 1) - 1 = k + q' by omega, KY.out, HX.out]; exact HNE.out
                    rw [show k + (q' + 1 + 1) = k + (q' + 1) + 1 by omega, dedup_snoc (by omega) hll2, e9, ← hcu.out.1, List.take_succ_eq_append_getElem (by rw [List.length_set]; exact hic), List.getElem_set_self, List.take_set_of_le (Nat.le_refl _)]
                  · rw [List.drop_set_of_lt (by omega)]
                    have h0 := congrArg (List.drop 1) hcu.out.2.1
                    rw [List.drop_drop, List.drop_drop] at h0
                    rw [show k + (q' + 1 + 1) - 1 = k + (q' + 1) - 1 + 1 by omega]
                    exact h0
            · have hend : k + q = n := by omega
              have hdd : cur.take i = dedup l := by
                have h0 := hcu.out.1
                rw [hend, List.take_of_length_le (show l.length ≤ n by have := HLN.out; omega)] at h0
                exact h0
              have hin : i < n := by omega
              have hown := how2.out
              obtain ⟨cur0, hg0, hsz0, htk0⟩ : ∃ cur0 : Array Value, wp.heap[g]? = some (.cells cur0 84 (0, 0)) ∧ cur0.size = cap * 4 ∧ cur0.toList.take (n * 4) = segCells cur := by
                rcases hown.2.2 with ⟨h1, _⟩ | ⟨g', cap', cur0, h1, _, h3, _, _, h6, h7⟩
                · cases h1
                · simp only [Value.slice.injEq, true_and] at h1
                  obtain ⟨h1, rfl⟩ := h1
                  obtain rfl : g = g' := by simpa using h1
                  exact ⟨cur0, h3, h6, h7⟩
              obtain ⟨i0, hi, hz0, hz1, hz2⟩ := info_parts (show (Try.prog.info? 84).map (fun i => (i.zero, i.size, i.bytes)) = some (some (.agg #[.int .i64 0, .string .empty, .string .empty, .slice none 0 0]), 4, 64) by kernel_rfl)
              have hzl : (Builtin.zeroCells (Value.agg #[.int .i64 0, .string .empty, .string .empty, .slice none 0 0]).cells (n - i)).toList.length = (n - i) * 4 := by
                rw [Array.length_toList, size_zeroCells]; rfl
              have hfit : i * 4 + (Builtin.zeroCells (Value.agg #[.int .i64 0, .string .empty, .string .empty, .slice none 0 0]).cells (n - i)).toList.length ≤ cur0.toList.length := by
                rw [hzl, Array.length_toList, hsz0]; omega
              have hnew : ∀ W, W.heap[g]? = some (.cells (splice cur0.toList (i * 4) (Builtin.zeroCells (Value.agg #[.int .i64 0, .string .empty, .string .empty, .slice none 0 0]).cells (n - i)).toList).toArray 84 (0, 0)) → OwnS W B g i cap (dedup l) := fun W hW => by
                have hdl : (dedup l).length = i := by rw [← hdd, List.length_take]; have := hown.1; omega
                refine ⟨hdl.symm, by rw [segCells_length, hdl], .inr ⟨g, cap, _, rfl, hown.lt.1, hW, by omega, hown.capm, ?_, ?_⟩⟩
                · rw [List.size_toArray, length_splice _ _ _ hfit, Array.length_toList, hsz0]
                · unfold splice
                  rw [List.toList_toArray, List.take_append_of_le_length (by rw [List.length_take, Array.length_toList, hsz0]; omega), List.take_take, Nat.min_self, ← hdd]
                  have e : (cur0.toList.take (n * 4)).take (i * 4) = cur0.toList.take (i * 4) := by rw [List.take_take, Nat.min_eq_left (by omega)]
                  rw [← e, htk0]
                  have e2 : cur = cur.take i ++ cur.drop i := (List.take_append_drop _ _).symm
                  have e3 : segCells cur = segCells (cur.take i) ++ segCells (cur.drop i) := by rw [← segCells_append, List.take_append_drop]
                  rw [e3, List.take_left' (by rw [segCells_length, List.length_take]; have := hown.1; omega)]
              have HNEW := Lib.hid hnew
              have HG0 := Lib.hid hg0
              have HFIT := Lib.hid hfit
              have j1 : (0 : Int) ≤ (i : Int) := by omega
              have j2 : (i : Int) ≤ (n : Int) := by omega
              have j3 : (i : Int) ≤ (cap : Int) := by omega
              have hci : ¬ cap = i := by omega
              have jlt : ¬ (q : Int) < ((n - k : Nat) : Int) := by omega
              have hpos : 0 < n - i := by omega
              clear hdd hown hg0 hsz0 htk0 hzl hfit hnew hend HW2 HG2
              go_wp2_with ((with_reducible refine wpList_clear_row (o := ⟨none, .call { callee := .builtin .clear, args := #[.tmp 61], argTypes := #[60] }, _, _, _, _⟩) ?agd (.tmp 61) 60 ?ao 84 i0 (.agg #[.int .i64 0, .string .empty, .string .empty, .slice none 0 0]) Try.underlying60 hi hz0 g (i * 4) (n - i) (cap - i) ?as2 cur0.toList 84 HG0.out (zero_one4 _) HFIT.out ?an1 ?_); rotate_right 1; intro y3 hg3 hgr3)
              case agd => rfl
              case ao => rfl

              go_ret
              exact ⟨i, rfl, HNEW.out _ hg3.out, grown_trans hgr2.out hgr3⟩
        · have hcb : (x.num == y.num) = false := by simpa using hc
          rw [hcb]
          go_wp2_with fail
          go_roundw
          case rel =>
            refine ⟨j + 1 + 1, by go_num, by omega, by omega, ?_, HW2.out, HG2.out⟩
            show _ = _
            have e9 : addU (kn l (j + 1 - 1)) l[j + 1] = [l[j + 1]] := by unfold addU; rw [if_neg]; rw [show j + 1 - 1 = j by omega, KY.out, HX.out]; exact hc
            rw [dedup_snoc (by omega) hjl, hdd.out, e9, ← List.take_succ_eq_append_getElem hjl]
          case measure => simp [intOf]; omega
      · have hd : dedup l = l := by
          have := hdd.out
          rwa [List.take_of_length_le (by have := HL.out; omega)] at this
        have HD := Lib.hid hd
        clear hd
        go_wp2_with fail
        go_ret
        exact ⟨n, rfl, by rw [HD.out]; exact how.out, hgr.out⟩
end Go.Proofs.Ytkecjopojnllnaa
