/- Names and numbers are one another's. -/
import Derived.Test.YtkecjopojnllnaaM03
import Derived.Test.YtkecjopojnllnaaM05
import Derived.Test.YtkecjopojnllnaaM08
namespace Go.Proofs.Ytkecjopojnllnaa
open Go.RowKit Go.Deep Go.Joins

def dedupF (v : Int) : List Sg → List Sg
  | [] => []
  | x :: r => if x.num = v then dedupF v r else x :: dedupF x.num r
def dedup : List Sg → List Sg
  | [] => []
  | x :: r => x :: dedupF x.num r
/-- The number that the next one is held against. -/
def lastN (v : Int) : List Sg → Int
  | [] => v
  | x :: r => lastN x.num r
def addU (v : Int) (x : Sg) : List Sg := if x.num = v then [] else [x]
theorem dedupF_snoc (v : Int) (l : List Sg) (x : Sg) : dedupF v (l ++ [x]) = dedupF v l ++ addU (lastN v l) x := by
  induction l generalizing v with
  | nil => rfl
  | cons y r ih =>
    have e1 : dedupF v (y :: r ++ [x]) = if y.num = v then dedupF v (r ++ [x]) else y :: dedupF y.num (r ++ [x]) := rfl
    have e2 : dedupF v (y :: r) = if y.num = v then dedupF v r else y :: dedupF y.num r := rfl
    have e3 : lastN v (y :: r) = lastN y.num r := rfl
    rw [e1, e2, e3]
    by_cases h : y.num = v
    · rw [if_pos h, if_pos h, ih v, h]
    · rw [if_neg h, if_neg h, ih y.num, List.cons_append]
theorem lastN_snoc (v : Int) (l : List Sg) (x : Sg) : lastN v (l ++ [x]) = x.num := by
  induction l generalizing v with
  | nil => rfl
  | cons y r ih => exact ih y.num
theorem lastN_take (v : Int) (l : List Sg) (k : Nat) (hk : 0 < k) (h : k ≤ l.length) : lastN v (l.take k) = kn l (k - 1) := by
  obtain ⟨j, rfl⟩ : ∃ j, k = j + 1 := ⟨k - 1, by omega⟩
  rw [List.take_succ_eq_append_getElem (by omega), lastN_snoc, show j + 1 - 1 = j by omega, kn_at (by omega)]
theorem dedup_snoc {l : List Sg} {k : Nat} (h0 : 0 < k) (h : k < l.length) : dedup (l.take (k + 1)) = dedup (l.take k) ++ addU (kn l (k - 1)) l[k] := by
  cases l with
  | nil => simp at h
  | cons x r =>
    obtain ⟨j, rfl⟩ : ∃ j, k = j + 1 := ⟨k - 1, by omega⟩
    have hj : j < r.length := by simpa using h
    show x :: dedupF x.num (r.take (j + 1)) = x :: dedupF x.num (r.take j) ++ _
    rw [List.take_succ_eq_append_getElem hj, dedupF_snoc, List.cons_append]
    have e2 : lastN x.num (r.take j) = kn (x :: r) (j + 1 - 1) := by
      cases j with
      | zero => rfl
      | succ i =>
        rw [lastN_take _ _ _ (by omega) (by omega)]
        show kn r i = kn (x :: r) (i + 1)
        unfold kn
        rfl
    rw [← e2]
    rfl
theorem dedup_len (l : List Sg) : (dedup l).length ≤ l.length := by
  have h : ∀ (v : Int) (l : List Sg), (dedupF v l).length ≤ l.length := by
    intro v l
    induction l generalizing v with
    | nil => exact Nat.le_refl _
    | cons x r ih =>
      simp only [dedupF]
      split
      · exact Nat.le_succ_of_le (ih v)
      · exact Nat.succ_le_succ (ih x.num)
  cases l with
  | nil => exact Nat.le_refl _
  | cons x r => exact Nat.succ_le_succ (h x.num r)
theorem eq_any (x y : Sg) (w : World) : Calls Try.prog 54 #[x.val, y.val] w fun e w' => e = .returned (.bool (x.num == y.num)) ∧ Below w.heap.size w w' := by
  unfold Sg.val
  go_enter Try.func54, Try.ntmps54
  go_wp2_with fail
  go_ret
  exact ⟨rfl, below2 w _ _⟩
abbrev eqV : Value := .func (.func 54) #[] #[]
theorem OwnS.capn {w : World} {B g n cap : Nat} {l : List Sg} (h : OwnS w B g n cap l) : n ≤ cap := by
  rcases h.2.2 with ⟨h1, _⟩ | ⟨g', cap', cur, h1, _, _, h3, _⟩
  · cases h1
  · simp only [Value.slice.injEq, true_and] at h1
    rw [h1.2]; exact h3
theorem OwnS.capm {w : World} {B g n cap : Nat} {l : List Sg} (h : OwnS w B g n cap l) : cap ≤ maxLen := by
  rcases h.2.2 with ⟨h1, _⟩ | ⟨g', cap', cur, h1, _, _, _, h4, _⟩
  · cases h1
  · simp only [Value.slice.injEq, true_and] at h1
    rw [h1.2]; exact h4

theorem zero_one4 (n : Nat) : ∀ u ∈ (Builtin.zeroCells (Value.agg #[.int .i64 0, .string .empty, .string .empty, .slice none 0 0]).cells n).toList, u.oneCell' = true := by
  intro u hu
  unfold Builtin.zeroCells at hu
  rw [Array.toList_map] at hu
  obtain ⟨i, _, rfl⟩ := List.mem_map.1 hu
  have h4 : (Value.agg #[.int .i64 0, .string .empty, .string .empty, .slice none 0 0]).cells = #[.int .i64 0, .string .empty, .string .empty, .slice none 0 0] := rfl
  rw [h4]
  have hs : i % (#[Value.int .i64 0, .string .empty, .string .empty, .slice none 0 0] : Array Value).size < 4 := Nat.mod_lt _ (by decide)
  generalize i % (#[Value.int .i64 0, .string .empty, .string .empty, .slice none 0 0] : Array Value).size = r at hs
  obtain rfl | rfl | rfl | rfl : r = 0 ∨ r = 1 ∨ r = 2 ∨ r = 3 := by omega
  all_goals rfl

set_option maxRecDepth 100000 in
set_option maxHeartbeats 2000000 in
theorem compact_any (l : List Sg) (B g n cap : Nat) (w : World) (h : OwnS w B g n cap l) (hn : n ≤ 1152921504606846976) :
    Calls Try.prog 53 #[.slice (some ⟨g, 0, none⟩) n cap, eqV] w fun e w' => ∃ m, e = .returned (.slice (some ⟨g, 0, none⟩) m cap) ∧ OwnS w' B g m cap (dedup l) ∧ w.grownBy w' (some g) := by
  have H := Lib.hid h
  have hl := h.1
  by_cases h2 : n < 2
  · have h2' : (n : Int) < 2 := by omega
    have hd : dedup l = l := by
      match l, hl with
      | [], _ => rfl
      | [x], _ => rfl
      | x :: y :: r, hl => simp at hl; omega
    have HD := Lib.hid hd
    clear h hl hd
    go_enter Try.func53, Try.ntmps53
    go_wp2_with fail
    go_ret
    exact ⟨n, rfl, by rw [HD.out]; exact H.out, grown_refl _ _⟩
  · have h2' : ¬ (n : Int) < 2 := by omega
    have HL := Lib.hid hl
    clear h hl
    go_enter Try.func53, Try.ntmps53
    go_wp2_with fail
    go_loopw [5] (fun i wr => ∃ k : Nat, i = .int .i64 (k : Int) ∧ 1 ≤ k ∧ k ≤ n ∧ Hid (dedup (l.take k) = l.take k) ∧ Hid (OwnS wr B g n cap l) ∧ Hid (w.grownBy wr (some g))) (fun i _ => n - (intOf i).toNat)
    case atStart =>
      refine ⟨1, rfl, Nat.le_refl _, by omega, ?_, H.out, grown_refl _ _⟩
      show _ = _
      cases l with
      | nil => rfl
      | cons x r => rfl
    case round =>
      obtain ⟨k, rfl, hk1, hkn, hdd, how, hgr⟩ := hrel
      obtain ⟨wo, hwo⟩ : ∃ wo, wo = wr := ⟨_, rfl⟩
      subst hwo
      by_cases hlt : k < n
      · obtain ⟨j, rfl⟩ : ∃ j, k = j + 1 := ⟨k - 1, by omega⟩
        have hjl : j + 1 < l.length := by have := HL.out; omega
        obtain ⟨x, hx⟩ : ∃ x, l[j + 1] = x := ⟨_, rfl⟩
        obtain ⟨y, hy⟩ : ∃ y, l[j] = y := ⟨_, rfl⟩
        have hcel := how.out.cells8 (i := j + 1) (j := j) (x := x) (y := y) ⟨by omega, hx⟩ ⟨by omega, hy⟩
        have kx : kn l (j + 1) = x.num := by rw [kn_at (by omega), hx]
        have ky : kn l j = y.num := by rw [kn_at (by omega), hy]
        have HX := Lib.hid hx
        have KX := Lib.hid kx
        have KY := Lib.hid ky
        have HCEL := Lib.hid hcel
        have b1 : (j : Int) + 1 < (n : Int) := by omega
        have b2 : (j : Int) < (n : Int) := by omega
        have b4 : (0 : Int) ≤ (j : Int) + 1 := by omega
        have b5 : ((j : Int) + 1).toNat = j + 1 := by omega
        have w3 : IntKind.i64.wrap ((j : Int) + 1 - 1) = (j : Int) := by rw [show (j : Int) + 1 - 1 = (j : Int) by omega]; exact IntWalk.i64_in _ (by omega)
        have w4 : IntKind.i64.wrap (j : Int) = (j : Int) := IntWalk.i64_in _ (by omega)
        have lg := how.out.lt.2
        obtain ⟨c0, c1, c2, c3, d0, d1, d2, d3⟩ := hcel wo (nb_refl _)
        have hs1 := hcel wo.drew (nb_drew (nb_refl _))
        unfold Cells8 at hs1
        clear hcel hx hy kx ky
        go_wp2_with fail
        go_region_held3 (fun W => W.cell? ⟨g, (j + 1) * 4, none⟩ = some (.int .i64 x.num) ∧ W.cell? ⟨g, (j + 1) * 4 + 1, none⟩ = some (.string x.name) ∧ W.cell? ⟨g, (j + 1) * 4 + 2, none⟩ = some (.string x.safe) ∧ W.cell? ⟨g, (j + 1) * 4 + 3, none⟩ = some x.ov ∧ W.cell? ⟨g, j * 4, none⟩ = some (.int .i64 y.num) ∧ W.cell? ⟨g, j * 4 + 1, none⟩ = some (.string y.name) ∧ W.cell? ⟨g, j * 4 + 2, none⟩ = some (.string y.safe) ∧ W.cell? ⟨g, j * 4 + 3, none⟩ = some y.ov)
          (first | exact hs1 | exact HCEL.out _ (nb_refl _) | exact HCEL.out _ N2)
          (first | (go_at_call 54; refine (eq_any x y _).mono ?_; rintro e2 w2 ⟨rfl, hb2⟩; have N2 := below_then (nb_drew (nb_refl wo)) hb2) | fail)
        have HW2 := Lib.hid (how.out.below N2)
        have HG2 := Lib.hid (grown_trans hgr.out (below_grownBy (row := some g) N2))
        clear c0 c1 c2 c3 d0 d1 d2 d3 lg hs1 HCEL N2 hb2 how hgr
        by_cases hc : x.num = y.num
        · have hcb : (x.num == y.num) = true := by simpa using hc
          obtain ⟨k, hk⟩ : ∃ k, j + 1 = k := ⟨_, rfl⟩
          have hkI : (j : Int) + 1 = (k : Int) := by omega
          have hkn2 : k < n := by omega
          have hk1b : 1 ≤ k := by omega
          have hdk : dedup (l.take (k + 1)) = l.take k := by
            have e9 : addU (kn l (k - 1)) (l[k]'(by omega)) = [] := by
              have hx2 := HX.out
              subst hk
              unfold addU
              rw [if_pos]
              rw [show j + 1 - 1 = j by omega, KY.out, hx2]
              exact hc
            rw [dedup_snoc (by omega) (by omega), e9, List.append_nil, ← hk]
            exact hdd.out
          rw [hcb, hkI]
          have hcap := HW2.out.capn
          have hck : ¬ cap = k := by omega
          have i1 : (0 : Int) ≤ (k : Int) := by omega
          have i2 : (k : Int) ≤ (n : Int) := by omega
          have i3 : (n : Int) ≤ (cap : Int) := by omega
          have hcm : cap ≤ 9223372036854775807 := by have := HW2.out.capm; unfold maxLen at this; omega
          have HDK := Lib.hid hdk
          have hln : l.length = n := HL.out.symm
          have HLN := Lib.hid hln
          clear hdk hkI hk hcb hc HX KX KY hdd b1 b2 b4 b5 w3 w4 hjl hln hlt hk1 hkn
          go_wp2_with fail
          go_loopw [7, 5] (fun a b wr => ∃ (q i : Nat) (cur : List Sg), a = .int .i64 (q : Int) ∧ b = .int .i64 (i : Int) ∧ 1 ≤ q ∧ k + q ≤ n ∧ k ≤ i ∧ i + 1 ≤ k + q ∧ Hid (cur.take i = dedup (l.take (k + q)) ∧ cur.drop (k + q - 1) = l.drop (k + q - 1) ∧ cur.length = l.length) ∧ Hid (OwnS wr B g n cap cur) ∧ Hid (w.grownBy wr (some g))) (fun a _ _ => n - (intOf a).toNat)
          case atStart =>
            exact ⟨1, k, l, rfl, rfl, Nat.le_refl _, by omega, Nat.le_refl _, Nat.le_refl _, ⟨HDK.out.symm, rfl, rfl⟩, HW2.out, HG2.out⟩
          case round =>
            obtain ⟨q, i, cur, rfl, rfl, hq1, hqn, hki, hiq, hcu, how2, hgr2⟩ := hrel
            obtain ⟨wp, hwp⟩ : ∃ wp, wp = wr := ⟨_, rfl⟩
            subst hwp
            by_cases hlt : k + q < n
            · obtain ⟨q', rfl⟩ : ∃ q', q = q' + 1 := ⟨q - 1, by omega⟩
              have hlc : cur.length = n := by rw [hcu.out.2.2]; exact HLN.out
              have hll : k + (q' + 1) < l.length := by have := HLN.out; omega
              obtain ⟨x, hx⟩ : ∃ x, l[k + (q' + 1)] = x := ⟨_, rfl⟩
              obtain ⟨y, hy⟩ : ∃ y, l[k + q']'(by omega) = y := ⟨_, rfl⟩
              have cget : ∀ r (h1 : k + q' ≤ r) (h2 : r < cur.length) (h3 : r < l.length), cur[r] = l[r] := fun r h1 h2 h3 => by
                have hd := hcu.out.2.1
                have e1 := List.getElem?_drop (xs := cur) (i := k + (q' + 1) - 1) (j := r - (k + q'))
                have e2 := List.getElem?_drop (xs := l) (i := k + (q' + 1) - 1) (j := r - (k + q'))
                rw [hd, e2, show k + (q' + 1) - 1 + (r - (k + q')) = r by omega, List.getElem?_eq_getElem h2, List.getElem?_eq_getElem h3] at e1
                exact (Option.some.inj e1).symm
              have cx : cur[k + (q' + 1)]'(by omega) = x := by rw [cget _ (by omega) (by omega) hll]; exact hx
              have cy : cur[k + q']'(by omega) = y := by rw [cget _ (by omega) (by omega) (by omega)]; exact hy
              have hcel := how2.out.cells8 (i := k + (q' + 1)) (j := k + q') (x := x) (y := y) ⟨by omega, cx⟩ ⟨by omega, cy⟩
              have kx : kn l (k + (q' + 1)) = x.num := by rw [kn_at hll, hx]
              have ky : kn l (k + q') = y.num := by rw [kn_at (by omega), hy]
              have hcel2 : ∀ W, Below wp.heap.size wp W → W.cell? ⟨g, k * 4 + (q' + 1) * 4, none⟩ = some (.int .i64 x.num) ∧ W.cell? ⟨g, k * 4 + (q' + 1) * 4 + 1, none⟩ = some (.string x.name) ∧ W.cell? ⟨g, k * 4 + (q' + 1) * 4 + 2, none⟩ = some (.string x.safe) ∧ W.cell? ⟨g, k * 4 + (q' + 1) * 4 + 3, none⟩ = some x.ov ∧ W.cell? ⟨g, k * 4 + q' * 4, none⟩ = some (.int .i64 y.num) ∧ W.cell? ⟨g, k * 4 + q' * 4 + 1, none⟩ = some (.string y.name) ∧ W.cell? ⟨g, k * 4 + q' * 4 + 2, none⟩ = some (.string y.safe) ∧ W.cell? ⟨g, k * 4 + q' * 4 + 3, none⟩ = some y.ov := fun W hW => by
                have h0 := hcel W hW
                unfold Cells8 at h0
                rw [Nat.add_mul, Nat.add_mul k q' 4] at h0
                exact h0
              have HX := Lib.hid hx
              have KX := Lib.hid kx
              have KY := Lib.hid ky
              have HCEL := Lib.hid hcel2
              have b1 : (q' : Int) + 1 < ((n - k : Nat) : Int) := by omega
              have b2 : (q' : Int) < ((n - k : Nat) : Int) := by omega
              have b4 : (0 : Int) ≤ (q' : Int) + 1 := by omega
              have b5 : ((q' : Int) + 1).toNat = q' + 1 := by omega
              have w3 : IntKind.i64.wrap ((q' : Int) + 1 - 1) = (q' : Int) := by rw [show (q' : Int) + 1 - 1 = (q' : Int) by omega]; exact IntWalk.i64_in _ (by omega)
              have w4 : IntKind.i64.wrap (q' : Int) = (q' : Int) := IntWalk.i64_in _ (by omega)
              have w5 : IntKind.i64.wrap ((i : Int) + 1) = (i : Int) + 1 := IntWalk.i64_in _ (by omega)
              have w6 : IntKind.i64.wrap ((q' : Int) + 1 + 1) = (q' : Int) + 1 + 1 := IntWalk.i64_in _ (by omega)
              have lg := how2.out.lt.2
              have hs1 := hcel2 wp.drew (nb_drew (nb_refl _))
              obtain ⟨c0, c1, c2, c3, d0, d1, d2, d3⟩ := hcel2 wp (nb_refl _)
              clear hcel hcel2 hx hy kx ky cx cy cget hlc
              go_wp2_with fail
              go_region_held3 (fun W => W.cell? ⟨g, k * 4 + (q' + 1) * 4, none⟩ = some (.int .i64 x.num) ∧ W.cell? ⟨g, k * 4 + (q' + 1) * 4 + 1, none⟩ = some (.string x.name) ∧ W.cell? ⟨g, k * 4 + (q' + 1) * 4 + 2, none⟩ = some (.string x.safe) ∧ W.cell? ⟨g, k * 4 + (q' + 1) * 4 + 3, none⟩ = some x.ov ∧ W.cell? ⟨g, k * 4 + q' * 4, none⟩ = some (.int .i64 y.num) ∧ W.cell? ⟨g, k * 4 + q' * 4 + 1, none⟩ = some (.string y.name) ∧ W.cell? ⟨g, k * 4 + q' * 4 + 2, none⟩ = some (.string y.safe) ∧ W.cell? ⟨g, k * 4 + q' * 4 + 3, none⟩ = some y.ov)
                (first | exact hs1 | exact HCEL.out _ (nb_refl _) | exact HCEL.out _ N2)
                (first | (go_at_call 54; refine (eq_any x y _).mono ?_; rintro e2 w2 ⟨rfl, hb2⟩; have N2 := below_then (nb_drew (nb_refl wp)) hb2) | fail)
              have HW3 := Lib.hid (how2.out.below N2)
              have HG3 := Lib.hid (grown_trans hgr2.out (below_grownBy (row := some g) N2))
              have hcells3 := HCEL.out _ N2
              clear c0 c1 c2 c3 d0 d1 d2 d3 lg hs1 HCEL N2 hb2 how2 hgr2 HW2 HG2
              by_cases hc : x.num = y.num
              · have hcb : (!(x.num == y.num)) = false := by simp [hc]
                rw [hcb]
                clear hcells3
                go_wp2_with fail
                go_roundw
                case rel =>
                  have hll : k + (q' + 1) < l.length := by have := HLN.out; omega
                  refine ⟨q' + 1 + 1, i, cur, by go_num, rfl, by omega, by omega, hki, by omega, ⟨?_, ?_, hcu.out.2.2⟩, HW3.out, HG3.out⟩
                  · have e9 : addU (kn l (k + (q' + 1) - 1)) (l[k + (q' + 1)]) = [] := by unfold addU; rw [if_pos]; rw [show k + (q' + 1) - 1 = k + q' by omega, KY.out, HX.out]; exact hc
                    rw [show k + (q' + 1 + 1) = k + (q' + 1) + 1 by omega, dedup_snoc (by omega) hll, e9, List.append_nil]
                    exact hcu.out.1
                  · have h0 := congrArg (List.drop 1) hcu.out.2.1
                    rw [List.drop_drop, List.drop_drop] at h0
                    rw [show k + (q' + 1 + 1) - 1 = k + (q' + 1) - 1 + 1 by omega]
                    exact h0
                case measure => simp [intOf]; omega
              · have hcb : (!(x.num == y.num)) = true := by simp [hc]
                rw [hcb]
                have hic : i < cur.length := by rw [hcu.out.2.2]; have := HLN.out; omega
                obtain ⟨z, hz⟩ : ∃ z, cur[i] = z := ⟨_, rfl⟩
                obtain ⟨g0, g1, g2, g3⟩ := HW3.out.at i hic
                rw [hz] at g0 g1 g2 g3
                obtain ⟨c0, c1, c2, c3, d0, d1, d2, d3⟩ := hcells3
                have f0 := HW3.out.fz (i * 4)
                have f1 := HW3.out.fz (i * 4 + 1)
                have f2 := HW3.out.fz (i * 4 + 2)
                have f3 := HW3.out.fz (i * 4 + 3)
                have lg2 := HW3.out.lt.2
                have b7 : (i : Int) < (n : Int) := by omega
                have hst := HW3.out.store hic x
                have hgr4 := grown_set (grown_set (grown_set (grown_set HG3.out (.inl rfl) (i * 4) (.int .i64 x.num)) (.inl rfl) (i * 4 + 1) (.string x.name)) (.inl rfl) (i * 4 + 2) (.string x.safe)) (.inl rfl) (i * 4 + 3) x.ov
                have HST := Lib.hid hst
                have HGR4 := Lib.hid hgr4
                have HNE := Lib.hid hc
                clear hz hst hgr4 hc hcb
                go_wp2_with fail
                case roundEnd =>
                  have hll2 : k + (q' + 1) < l.length := by have := HLN.out; omega
                  refine ⟨⟨q' + 1 + 1, i + 1, cur.set i x, by go_num, by go_num, by omega, by omega, by omega, by omega, ⟨?_, ?_, by rw [List.length_set]; exact hcu.out.2.2⟩, HST.out, HGR4.out⟩, by simp [intOf]; omega⟩
                  · have e9 : addU (kn l (k + (q' + 1) - 1)) (l[k + (q' + 1)]) = [x] := by unfold addU; rw [if_neg, HX.out]; rw [show k + (q' + 1) - 1 = k + q' by omega, KY.out, HX.out]; exact HNE.out
                    rw [show k + (q' + 1 + 1) = k + (q' + 1) + 1 by omega, dedup_snoc (by omega) hll2, e9, ← hcu.out.1, List.take_succ_eq_append_getElem (by rw [List.length_set]; exact hic), List.getElem_set_self, List.take_set_of_le (Nat.le_refl _)]
                  · rw [List.drop_set_of_lt (by omega)]
                    have h0 := congrArg (List.drop 1) hcu.out.2.1
                    rw [List.drop_drop, List.drop_drop] at h0
                    rw [show k + (q' + 1 + 1) - 1 = k + (q' + 1) - 1 + 1 by omega]
                    exact h0
            · have hend : k + q = n := by omega
              have hdd : cur.take i = dedup l := by
                have h0 := hcu.out.1
                rw [hend, List.take_of_length_le (show l.length ≤ n by have := HLN.out; omega)] at h0
                exact h0
              have hin : i < n := by omega
              have hown := how2.out
              obtain ⟨cur0, hg0, hsz0, htk0⟩ : ∃ cur0 : Array Value, wp.heap[g]? = some (.cells cur0 84 (0, 0)) ∧ cur0.size = cap * 4 ∧ cur0.toList.take (n * 4) = segCells cur := by
                rcases hown.2.2 with ⟨h1, _⟩ | ⟨g', cap', cur0, h1, _, h3, _, _, h6, h7⟩
                · cases h1
                · simp only [Value.slice.injEq, true_and] at h1
                  obtain ⟨h1, rfl⟩ := h1
                  obtain rfl : g = g' := by simpa using h1
                  exact ⟨cur0, h3, h6, h7⟩
              obtain ⟨i0, hi, hz0, hz1, hz2⟩ := info_parts (show (Try.prog.info? 84).map (fun i => (i.zero, i.size, i.bytes)) = some (some (.agg #[.int .i64 0, .string .empty, .string .empty, .slice none 0 0]), 4, 64) by kernel_rfl)
              have hzl : (Builtin.zeroCells (Value.agg #[.int .i64 0, .string .empty, .string .empty, .slice none 0 0]).cells (n - i)).toList.length = (n - i) * 4 := by
                rw [Array.length_toList, size_zeroCells]; rfl
              have hfit : i * 4 + (Builtin.zeroCells (Value.agg #[.int .i64 0, .string .empty, .string .empty, .slice none 0 0]).cells (n - i)).toList.length ≤ cur0.toList.length := by
                rw [hzl, Array.length_toList, hsz0]; omega
              have hnew : ∀ W, W.heap[g]? = some (.cells (splice cur0.toList (i * 4) (Builtin.zeroCells (Value.agg #[.int .i64 0, .string .empty, .string .empty, .slice none 0 0]).cells (n - i)).toList).toArray 84 (0, 0)) → OwnS W B g i cap (dedup l) := fun W hW => by
                have hdl : (dedup l).length = i := by rw [← hdd, List.length_take]; have := hown.1; omega
                refine ⟨hdl.symm, by rw [segCells_length, hdl], .inr ⟨g, cap, _, rfl, hown.lt.1, hW, by omega, hown.capm, ?_, ?_⟩⟩
                · rw [List.size_toArray, length_splice _ _ _ hfit, Array.length_toList, hsz0]
                · unfold splice
                  rw [List.toList_toArray, List.take_append_of_le_length (by rw [List.length_take, Array.length_toList, hsz0]; omega), List.take_take, Nat.min_self, ← hdd]
                  have e : (cur0.toList.take (n * 4)).take (i * 4) = cur0.toList.take (i * 4) := by rw [List.take_take, Nat.min_eq_left (by omega)]
                  rw [← e, htk0]
                  have e2 : cur = cur.take i ++ cur.drop i := (List.take_append_drop _ _).symm
                  have e3 : segCells cur = segCells (cur.take i) ++ segCells (cur.drop i) := by rw [← segCells_append, List.take_append_drop]
                  rw [e3, List.take_left' (by rw [segCells_length, List.length_take]; have := hown.1; omega)]
              have HNEW := Lib.hid hnew
              have HG0 := Lib.hid hg0
              have HFIT := Lib.hid hfit
              have j1 : (0 : Int) ≤ (i : Int) := by omega
              have j2 : (i : Int) ≤ (n : Int) := by omega
              have j3 : (i : Int) ≤ (cap : Int) := by omega
              have hci : ¬ cap = i := by omega
              have jlt : ¬ (q : Int) < ((n - k : Nat) : Int) := by omega
              have hpos : 0 < n - i := by omega
              clear hdd hown hg0 hsz0 htk0 hzl hfit hnew hend HW2 HG2
              go_wp2_with ((with_reducible refine wpList_clear_row (o := ⟨none, .call { callee := .builtin .clear, args := #[.tmp 61], argTypes := #[60] }, _, _, _, _⟩) ?agd (.tmp 61) 60 ?ao 84 i0 (.agg #[.int .i64 0, .string .empty, .string .empty, .slice none 0 0]) Try.underlying60 hi hz0 g (i * 4) (n - i) (cap - i) ?as2 cur0.toList 84 HG0.out (zero_one4 _) HFIT.out ?an1 ?_); rotate_right 1; intro y3 hg3 hgr3)
              case agd => rfl
              case ao => rfl

              go_ret
              exact ⟨i, rfl, HNEW.out _ hg3.out, grown_trans hgr2.out hgr3⟩
        · have hcb : (x.num == y.num) = false := by simpa using hc
          rw [hcb]
          go_wp2_with fail
          go_roundw
          case rel =>
            refine ⟨j + 1 + 1, by go_num, by omega, by omega, ?_, HW2.out, HG2.out⟩
            show _ = _
            have e9 : addU (kn l (j + 1 - 1)) l[j + 1] = [l[j + 1]] := by unfold addU; rw [if_neg]; rw [show j + 1 - 1 = j by omega, KY.out, HX.out]; exact hc
            rw [dedup_snoc (by omega) hjl, hdd.out, e9, ← List.take_succ_eq_append_getElem hjl]
          case measure => simp [intOf]; omega
      · have hd : dedup l = l := by
          have := hdd.out
          rwa [List.take_of_length_le (by have := HL.out; omega)] at this
        have HD := Lib.hid hd
        clear hd
        go_wp2_with fail
        go_ret
        exact ⟨n, rfl, by rw [HD.out]; exact how.out, hgr.out⟩
end Go.Proofs.Ytkecjopojnllnaa
namespace Go.Proofs.Ytkecjopojnllnaa
open Go.RowKit Go.Deep Go.Joins

theorem insertion_nil (w : World) : Calls Try.prog 77 #[.slice none 0 0, .int .i64 0, .int .i64 0, cmpV] w fun e w' => e = .returned (.tuple #[]) ∧ w = w' := by
  go_enter Try.func77, Try.ntmps77
  go_wp2_with fail
  go_loop [8] (fun i => i = .int .i64 1) (fun _ => 0)
  case atStart => rfl
  case round =>
    subst hrel
    go_wp2_with fail
    go_end0
    exact ⟨rfl, rfl⟩
theorem stable_nil (w : World) : Calls Try.prog 70 #[.slice none 0 0, .int .i64 0, cmpV] w fun e w' => e = .returned (.tuple #[]) ∧ w = w' := by
  go_enter Try.func70, Try.ntmps70
  go_wp2_with fail
  go_loop [7, 8] (fun a b => a = .int .i64 0 ∧ b = .int .i64 20) (fun _ _ => 0)
  case atStart => exact ⟨rfl, rfl⟩
  case round =>
    obtain ⟨rfl, rfl⟩ := hrel
    go_wp2_with (go_at_call 77; refine (insertion_nil _).mono ?_; rintro e w1 ⟨rfl, rfl⟩)
    go_loop [6] (fun a => a = .int .i64 20) (fun _ => 0)
    case atStart => rfl
    case round =>
      subst hrel
      go_wp2_with fail
      go_end0
      exact ⟨rfl, rfl⟩
theorem sort_nil (w : World) : Calls Try.prog 50 #[.slice none 0 0, cmpV] w fun e w' => e = .returned (.tuple #[]) ∧ w = w' := by
  go_enter Try.func50, Try.ntmps50
  go_wp2_with (go_at_call 70; refine (stable_nil _).mono ?_; rintro e w1 ⟨rfl, rfl⟩)
  go_end0
  exact ⟨rfl, rfl⟩
theorem compact_nil (w : World) : Calls Try.prog 53 #[.slice none 0 0, eqV] w fun e w' => e = .returned (.slice none 0 0) ∧ w = w' := by
  go_enter Try.func53, Try.ntmps53
  go_wp2_with fail
  go_ret
  exact ⟨rfl, rfl⟩

/-! ### Plain -/
def slP : Value → Option Addr | .slice p _ _ => p | _ => none
def slL : Value → Nat | .slice _ l _ => l | _ => 0
def slC : Value → Nat | .slice _ _ c => c | _ => 0
/-- The file as a segment of that number. -/
def sgOf (n : Nat) (r : Rw) : Sg := ⟨n, r.name, r.safe, slP r.ov, slL r.ov, slC r.ov⟩
def sgs (p : ByteArray) (l : List Rw) : List Sg := l.filterMap fun r => (numB p r.name).map fun n => sgOf n r
theorem sgs_snoc (p : ByteArray) (l : List Rw) (k : Nat) (h : k < l.length) : sgs p (l.take (k + 1)) = sgs p (l.take k) ++ ((numB p l[k].name).map fun n => sgOf n l[k]).toList := by
  unfold sgs
  rw [List.take_succ_eq_append_getElem h, List.filterMap_append]
  cases h : numB p l[k].name <;> simp [h]
theorem sgs_len (p : ByteArray) (l : List Rw) : (sgs p l).length ≤ l.length := List.length_filterMap_le _ _
/-- The row of the segments, from nothing on. -/
def OwnN (w : World) (B : Nat) (v : Value) (l : List Sg) : Prop := w.ownsRow B 84 4 v l.length (segCells l) ∧ (v = .slice none 0 0 ↔ l = [])
theorem OwnN.below {w w' : World} {B : Nat} {v : Value} {l : List Sg} (h : OwnN w B v l) (hb : Below w.heap.size w w') : OwnN w' B v l := ⟨owns_below h.1 hb, h.2⟩
theorem OwnN.toS {w : World} {B : Nat} {v : Value} {l : List Sg} (h : OwnN w B v l) (hl : l ≠ []) : ∃ g cap, v = .slice (some ⟨g, 0, none⟩) l.length cap ∧ OwnS w B g l.length cap l := by
  rcases h.1.2 with ⟨h1, _⟩ | ⟨g, cap, cur, h1, _⟩
  · exact absurd (h.2.1 h1) hl
  · exact ⟨g, cap, h1, rfl, h1 ▸ h.1⟩

set_option maxRecDepth 100000 in
set_option maxHeartbeats 2000000 in
theorem segments_any (l : List Rw) (v : Value) (p : ByteArray) (w : World) (hr : Reads w v 3 l.length (rowCells l)) (ho : Opens w l) (hp : p.size ≤ 1000) (hm : l.length ≤ 1099511627776) :
    Calls Try.prog 31 #[.agg #[v], .string p] w fun e w' => ∃ (v' : Value) (D Z : List Sg), e = .returned v' ∧ w'.ownsRow w.heap.size 84 4 v' D.length (segCells D) ∧ D = dedup Z ∧ Rises Z ∧ Keeps (sgs p l) Z ∧ Below w.heap.size w w' := by
  obtain ⟨q, cap, rfl⟩ := hr.is
  obtain ⟨i0, hi, hz0, hz1, hz2⟩ := info_parts (show (Try.prog.info? 84).map (fun i => (i.zero, i.size, i.bytes)) = some (some (.agg #[.int .i64 0, .string .empty, .string .empty, .slice none 0 0]), 4, 64) by kernel_rfl)
  go_enter Try.func31, Try.ntmps31
  go_wp2_with fail
  generalize hw0 : w.alloc (Obj.cells #[.slice q l.length cap] 24) = w0
  have hb0 : Below w.heap.size w w0 := hw0 ▸ below1 w _
  have hs0 : w0.heap.size = w.heap.size + 1 := by rw [← hw0]; simp
  have hd0 : VarAt w0 w.heap.size (.slice q l.length cap) := hw0 ▸ VarAt.new w _
  have HB0 := Lib.hid hb0
  have HD0 := Lib.hid hd0
  have d0 := hd0.c
  have d1 := hd0.lt
  clear hw0 hb0 hd0
  go_wp2_with fail
  go_loopw [13, 5] (fun i u wr => ∃ k : Nat, k ≤ l.length ∧ i = .int .i64 (k : Int) ∧ Hid (OwnN wr w0.heap.size u (sgs p (l.take k))) ∧ Hid (Below w0.heap.size w0 wr)) (fun i _ _ => l.length - (intOf i).toNat)
  case atStart => exact ⟨0, Nat.zero_le _, rfl, ⟨World.ownsRow_nil _ _ _ _, ⟨fun _ => rfl, fun _ => rfl⟩⟩, Below.refl _ _⟩
  case round =>
    obtain ⟨k, hk, rfl, hown, hbl⟩ := hrel
    obtain ⟨wo, hwo⟩ : ∃ wo, wo = wr := ⟨_, rfl⟩
    subst hwo
    have hbw := below_then HB0.out hbl.out
    have HBW := Lib.hid hbw
    clear hbw
    by_cases hlt : k < l.length
    · obtain ⟨b1, off1, cap1, hv, _, _, hb1, c0, c1, c2⟩ := (hr.below HBW.out).file k hlt
      obtain ⟨rfl, rfl⟩ : q = some ⟨b1, off1, none⟩ ∧ cap = cap1 := by simpa using hv
      have hop := (ho l[k] (List.getElem_mem _)).below HBW.out
      obtain ⟨p3, cap3, hov⟩ := hop.is
      rw [hov] at c2
      have hsn := sgs_snoc p l k hlt
      have HSN := Lib.hid hsn
      have hlen := sgs_len p (l.take k)
      rw [List.length_take, Nat.min_eq_left hk] at hlen
      have HOV := Lib.hid hov
      have hnum := number_any p l[k].name
      have HNUM := Lib.hid hnum
      clear hv hop hov hsn hnum
      cases hn : numB p l[k].name with
      | none =>
        have HN := Lib.hid hn
        rw [hn] at HNUM HSN
        clear hn
        go_wp2_with (go_at_call 49; refine (HNUM.out _ hp).mono ?_; rintro e w1 ⟨rfl, rfl⟩; unfold numV)
        go_roundw
        case rel =>
          refine ⟨k + 1, by omega, by go_num, ?_, nb_alloc hbl.out _⟩
          have h0 := HSN.out
          simp only [Option.map_none, Option.toList_none, List.append_nil] at h0
          rw [h0]
          exact hown.out.below (below1 _ _)
        case measure => simp [intOf]; omega
      | some n =>
        have HN := Lib.hid hn
        rw [hn] at HNUM HSN
        clear hn
        go_wp2_with (first
          | (go_at_call 49; refine (HNUM.out _ hp).mono ?_; rintro e w1 ⟨rfl, rfl⟩; unfold numV)
          | (at_builtin; refine wpList_append_own _ rfl _ _ 60 rfl w0.heap.size 84 i0 (.agg #[.int .i64 0, .string .empty, .string .empty, .slice none 0 0]) 4 64 Try.underlying60 hi hz0 hz1 hz2 rfl (by decide) _ (sgs p (l.take k)).length (segCells (sgs p (l.take k))) rfl ?g1 ⟨wo.heap.size + 1, 0, none⟩ 1 1 [.int .i64 (n : Int), .string l[k].name, .string l[k].safe, .slice p3 l[k].opens.length cap3] rfl rfl ?g2 ?g3 ?g4 ?g5 ?g6 ?_; rotate_right 1; intro v6 w6 hown6 hg6 hnil6; have HOWN6 := Lib.hid hown6; have HG6 := Lib.hid hg6; have HNIL6 := Lib.hid hnil6; clear hown6 hg6 hnil6))
        case g1 => exact owns_below (owns_below hown.out.1 (below1 _ _)) (below1 _ _)
        case g2 =>
          intro j u hu
          rw [add_lit, Nat.zero_add, cell_of_row _ _ _ _ 84 _ (heap_alloc2_new wo _ _)]
          simpa using hu
        case g3 =>
          intro u hu
          simp at hu
          rcases hu with rfl | rfl | rfl | rfl <;> rfl
        case g4 => unfold maxLen; omega
        case g5 => omega
        case g6 => have := hbl.out.size; simp; omega
        case roundEnd =>
          refine ⟨⟨k + 1, by omega, by go_num, ?_, below_grown (nb_alloc (nb_alloc hbl.out _) _) (owns_below (owns_below hown.out.1 (below1 _ _)) (below1 _ _)) HG6.out⟩, by simp [intOf]; omega⟩
          have h0 := HSN.out
          simp only [Option.map_some, Option.toList_some] at h0
          have e2 : segCells [sgOf n l[k]] = [.int .i64 (n : Int), .string l[k].name, .string l[k].safe, .slice p3 l[k].opens.length cap3] := by
            simp [segCells, Sg.cells, sgOf, HOV.out, slP, slL, slC]
          refine ⟨?_, ?_⟩
          · rw [h0, List.length_append, segCells_append, e2]
            exact HOWN6.out
          · rw [HNIL6.out, h0]
            simp
    · obtain rfl : k = l.length := by omega
      have hown' : OwnN wo w0.heap.size u5 (sgs p l) := by
        have h0 := hown.out
        rwa [List.take_length] at h0
      by_cases hnil : sgs p l = []
      · have hu := hown'.2.2 hnil
        subst hu
        have HNIL := Lib.hid hnil
        clear hown hown' hnil
        go_wp2_with (first
          | (go_at_call 50; refine (sort_nil _).mono ?_; rintro e w1 ⟨rfl, rfl⟩)
          | (go_at_call 53; refine (compact_nil _).mono ?_; rintro e w1 ⟨rfl, rfl⟩))
        go_ret
        exact ⟨_, [], [], rfl, World.ownsRow_nil _ _ _ _, rfl, List.Pairwise.nil, by rw [HNIL.out]; exact Keeps.refl _, HBW.out⟩
      · obtain ⟨g, cap2, rfl, hS⟩ := hown'.toS hnil
        have hln : (sgs p l).length ≤ 1152921504606846976 := by have := sgs_len p l; omega
        have HS := Lib.hid hS
        have hB := hS.lt.1
        clear hown hown' hnil
        go_wp2_with (first
          | (go_at_call 50; refine (sort_any _ _ _ _ _ _ HS.out hln).mono ?_; rintro e w1 ⟨rfl, ⟨Z, z1, z2, z3⟩, hg1⟩; have Z1 := Lib.hid z1; have Z2 := Lib.hid z2; have Z3 := Lib.hid z3; have G1 := Lib.hid hg1; clear z1 z2 z3 hg1)
          | (go_at_call 53; refine (compact_any _ _ _ _ _ _ Z3.out hln).mono ?_; rintro e w2 ⟨m, rfl, hD, hg2⟩; have HD := Lib.hid hD; have G2 := Lib.hid hg2; clear hD hg2))
        go_ret
        have hb1 : Below w.heap.size w w1 := Below.grown HBW.out G1.out HBW.out.size (fun j hj => by have := Option.some.inj hj; omega)
        have hb2 : Below w.heap.size w w2 := Below.grown hb1 G2.out hb1.size (fun j hj => by have := Option.some.inj hj; omega)
        obtain ⟨rfl, hrow⟩ := HD.out
        exact ⟨_, dedup Z, Z, rfl, owns_mono hrow (by omega), rfl, Z1.out, Z2.out, hb2⟩
end Go.Proofs.Ytkecjopojnllnaa
namespace Go.Proofs.Ytkecjopojnllnaa
open Go.RowKit Go.Deep Go.Joins

def intCells (L : List Nat) : List Value := L.map fun (n : Nat) => Value.int .i64 (n : Int)
theorem intCells_length (L : List Nat) : (intCells L).length = L.length := by simp [intCells]
theorem intCells_append (a b : List Nat) : intCells (a ++ b) = intCells a ++ intCells b := by simp [intCells]
theorem int_one (L : List Nat) : ∀ u ∈ intCells L, u.oneCell' = true := by
  intro u hu
  obtain ⟨n, _, rfl⟩ := List.mem_map.1 hu
  rfl
/-- The row of numbers, from nothing on. -/
def OwnI (w : World) (B : Nat) (v : Value) (L : List Nat) : Prop := w.ownsRow B 3 1 v L.length (intCells L) ∧ (v = .slice none 0 0 ↔ L = [])
theorem OwnI.below {w w' : World} {B : Nat} {v : Value} {L : List Nat} (h : OwnI w B v L) (hb : Below w.heap.size w w') : OwnI w' B v L := ⟨owns_below h.1 hb, h.2⟩
theorem OwnI.is {w : World} {B : Nat} {v : Value} {L : List Nat} (h : OwnI w B v L) (hL : L ≠ []) : ∃ g cap, v = .slice (some ⟨g, 0, none⟩) L.length cap ∧ L.length ≤ cap ∧ cap ≤ maxLen ∧ g < w.heap.size ∧ B ≤ g ∧ ∀ j (hj : j < L.length), w.cell? ⟨g, j, none⟩ = some (.int .i64 (L[j] : Int)) := by
  obtain ⟨h1, h2⟩ := h
  rcases h1.2 with ⟨h3, _⟩ | ⟨g, cap, cur, rfl, hB, hg, hn, hm, _⟩
  · exact absurd (h2.1 h3) hL
  · refine ⟨g, cap, rfl, hn, hm, (Array.getElem?_eq_some_iff.1 hg).1, hB, fun j hj => ?_⟩
    rw [h1.cellAt j (by omega)]
    unfold intCells
    rw [List.getElem?_map, List.getElem?_eq_getElem hj]
    rfl
theorem OwnI.parts {w : World} {B g n cap : Nat} {L : List Nat} (h : w.ownsRow B 3 1 (.slice (some ⟨g, 0, none⟩) n cap) n (intCells L)) (hn : n = L.length) (k : Nat) (hk : k ≤ n) (hcap : n ≤ cap) (hm : cap ≤ maxLen) :
    Reads w (.slice (some ⟨g, 0, none⟩) k cap) 1 k (intCells (L.take k)) ∧ Reads w (.slice (some ⟨g, k, none⟩) (n - k) (cap - k)) 1 (n - k) (intCells (L.drop k)) := by
  have hsplit : intCells L = intCells (L.take k) ++ intCells (L.drop k) := by rw [← intCells_append, List.take_append_drop]
  have hlen : (intCells (L.take k)).length = k := by rw [intCells_length, List.length_take, Nat.min_eq_left (by omega)]
  have hcells := h.cells (g := g) rfl
  refine ⟨⟨by rw [hlen, Nat.mul_one], .inr ⟨_, cap, rfl, by omega, hm, fun j u hu => hcells j u ?_⟩⟩, ⟨by rw [intCells_length, List.length_drop, hn, Nat.mul_one], .inr ⟨_, cap - k, rfl, by omega, by omega, fun j u hu => ?_⟩⟩⟩
  · rw [hsplit, List.getElem?_append_left (List.getElem?_eq_some_iff.1 hu).1]
    exact hu
  · have h2 := hcells (k + j) u (by rw [hsplit, List.getElem?_append_right (by omega), hlen, Nat.add_sub_cancel_left]; exact hu)
    rw [add_lit] at h2 ⊢
    rw [Nat.zero_add] at h2
    exact h2
/-- Numbers that rise, each once. -/
def StrictN (L : List Nat) : Prop := L.Pairwise (· < ·)
def hasN (p : ByteArray) (l : List Rw) (n : Nat) : Prop := ∃ r ∈ l, numB p r.name = some n
theorem strict_put {A C : List Nat} {n : Nat} (h : StrictN (A ++ C)) (hA : ∀ a ∈ A, a < n) (hC : ∀ c ∈ C, n < c) : StrictN (A ++ n :: C) := by
  unfold StrictN at *
  rw [List.pairwise_append] at h ⊢
  obtain ⟨h1, h2, h3⟩ := h
  refine ⟨h1, List.pairwise_cons.2 ⟨hC, h2⟩, fun a ha b hb => ?_⟩
  rcases List.mem_cons.1 hb with rfl | hb
  · exact hA a ha
  · exact h3 a ha b hb
theorem hasN_snoc {p : ByteArray} {l : List Rw} {k : Nat} (hk : k < l.length) (n : Nat) : hasN p (l.take (k + 1)) n ↔ hasN p (l.take k) n ∨ numB p l[k].name = some n := by
  unfold hasN
  rw [List.take_succ_eq_append_getElem hk]
  constructor
  · rintro ⟨r, hr, h⟩
    rcases List.mem_append.1 hr with hr | hr
    · exact .inl ⟨r, hr, h⟩
    · rw [List.mem_singleton] at hr; subst hr; exact .inr h
  · rintro (⟨r, hr, h⟩ | h)
    · exact ⟨r, List.mem_append_left _ hr, h⟩
    · exact ⟨l[k], List.mem_append_right _ (List.mem_singleton.2 rfl), h⟩
/-- Two rows of numbers that rise and hold the same ones are one. -/
theorem strict_unique {L M : List Nat} (hL : StrictN L) (hM : StrictN M) (h : ∀ n, n ∈ L ↔ n ∈ M) : L = M := by
  induction L generalizing M with
  | nil =>
    cases M with
    | nil => rfl
    | cons m M => exact absurd ((h m).2 (by simp)) (by simp)
  | cons a L ih =>
    cases M with
    | nil => exact absurd ((h a).1 (by simp)) (by simp)
    | cons m M =>
      have hL' := List.pairwise_cons.1 hL
      have hM' := List.pairwise_cons.1 hM
      have e : a = m := by
        have h1 : a ∈ m :: M := (h a).1 (by simp)
        have h2 : m ∈ a :: L := (h m).2 (by simp)
        rcases List.mem_cons.1 h1 with h1 | h1
        · exact h1
        · rcases List.mem_cons.1 h2 with h2 | h2
          · exact h2.symm
          · have := hM'.1 a h1
            have := hL'.1 m h2
            omega
      subst e
      congr 1
      refine ih hL'.2 hM'.2 fun n => ⟨fun hn => ?_, fun hn => ?_⟩
      · rcases List.mem_cons.1 ((h n).1 (List.mem_cons_of_mem _ hn)) with e | hm
        · have := hL'.1 n hn; omega
        · exact hm
      · rcases List.mem_cons.1 ((h n).2 (List.mem_cons_of_mem _ hn)) with e | hm
        · have := hM'.1 n hn; omega
        · exact hm

set_option maxRecDepth 100000 in
set_option maxHeartbeats 2000000 in
theorem segments2_any (l : List Rw) (v : Value) (p : ByteArray) (w : World) (hr : Reads w v 3 l.length (rowCells l)) (hp : p.size ≤ 1000) (hm : l.length ≤ 1099511627776) :
    Calls Try.prog 37 #[.agg #[v], .string p] w fun e w' => ∃ (v' : Value) (L : List Nat), e = .returned v' ∧ OwnI w' w.heap.size v' L ∧ StrictN L ∧ (∀ n, n ∈ L ↔ hasN p l n) ∧ Below w.heap.size w w' := by
  obtain ⟨q, cap, rfl⟩ := hr.is
  obtain ⟨i0, hi, hz0, hz1, hz2⟩ := info_parts (show (Try.prog.info? 3).map (fun i => (i.zero, i.size, i.bytes)) = some (some (.int .i64 0), 1, 8) by kernel_rfl)
  go_enter Try.func37, Try.ntmps37
  go_wp2_with fail
  generalize hw0 : w.alloc (Obj.cells #[.slice q l.length cap] 24) = w0
  have hb0 : Below w.heap.size w w0 := hw0 ▸ below1 w _
  have hs0 : w0.heap.size = w.heap.size + 1 := by rw [← hw0]; simp
  have hd0 : VarAt w0 w.heap.size (.slice q l.length cap) := hw0 ▸ VarAt.new w _
  have HB0 := Lib.hid hb0
  have HD0 := Lib.hid hd0
  have d1 := hd0.lt
  clear hw0 hb0 hd0
  go_wp2_with fail
  go_loopw [6, 5] (fun i u wr => ∃ (k : Nat) (L : List Nat), k ≤ l.length ∧ i = .int .i64 (k : Int) ∧ Hid (L.length ≤ k) ∧ Hid (StrictN L ∧ ∀ n, n ∈ L ↔ hasN p (l.take k) n) ∧ Hid (OwnI wr w0.heap.size u L) ∧ Hid (Below w0.heap.size w0 wr)) (fun i _ _ => l.length - (intOf i).toNat)
  case atStart =>
    refine ⟨0, [], Nat.zero_le _, rfl, Nat.le_refl _, ⟨List.Pairwise.nil, fun n => ⟨(fun h => by cases h), ?_⟩⟩, ⟨World.ownsRow_nil _ _ _ _, ⟨fun _ => rfl, fun _ => rfl⟩⟩, Below.refl _ _⟩
    rintro ⟨r, hr, _⟩
    rw [List.take_zero] at hr
    cases hr
  case round =>
    obtain ⟨k, L, hk, rfl, hLk, hL, hown, hbl⟩ := hrel
    obtain ⟨wo, hwo⟩ : ∃ wo, wo = wr := ⟨_, rfl⟩
    subst hwo
    have hbw := below_then HB0.out hbl.out
    have HBW := Lib.hid hbw
    have D1 := HD0.out.keep hbl.out
    have d2 := D1.c
    have d3 := D1.lt
    clear hbw D1
    by_cases hlt : k < l.length
    · obtain ⟨b1, off1, cap1, hv, _, _, hb1, c0, c1, c2⟩ := (hr.below HBW.out).file k hlt
      obtain ⟨rfl, rfl⟩ : q = some ⟨b1, off1, none⟩ ∧ cap = cap1 := by simpa using hv
      have hnum := number2_any p l[k].name
      have HNUM := Lib.hid hnum
      clear hv hnum
      cases hn : numB p l[k].name with
      | none =>
        have HN := Lib.hid hn
        rw [hn] at HNUM
        clear hn
        go_wp2_with (go_at_call 58; refine (HNUM.out _ hp).mono ?_; rintro e w1 ⟨rfl, rfl⟩; unfold numI)
        go_roundw
        case rel =>
          refine ⟨k + 1, L, by omega, by go_num, Nat.le_succ_of_le hLk.out, ⟨hL.out.1, fun n => ?_⟩, hown.out, hbl.out⟩
          rw [hasN_snoc hlt, HN.out, hL.out.2]
          simp
        case measure => simp [intOf]; omega
      | some n =>
        have HN := Lib.hid hn
        rw [hn] at HNUM
        clear hn
        have n0 : ¬ (n : Int) < 0 := by omega
        by_cases hnil : L = []
        · subst hnil
          have hu := hown.out.2.2 rfl
          subst hu
          go_wp2_with (go_at_call 58; refine (HNUM.out _ hp).mono ?_; rintro e w1 ⟨rfl, rfl⟩; unfold numI)
          have HOWN0 := hown
          go_wp2_with (go_at_call 58; refine (HNUM.out _ hp).mono ?_; rintro e w1 ⟨rfl, rfl⟩; unfold numI)
          go_loop [8] (fun a => a = .int .i64 0) (fun _ => 0)
          case atStart => rfl
          case round =>
            subst hrel
            go_wp2_with (first
              | (at_builtin; refine wpList_append_first rfl _ _ 67 rfl wo.heap.size 3 i0 (.int .i64 0) 1 8 Try.underlying67 hi hz0 hz1 hz2 rfl (by decide) wo.heap.size rfl ?a1q1 _ 0 (intCells (([] : List Nat).take 0)) rfl ?a2q1 (int_one _) ?a3q1 ?a4q1 ?a5q1 ?_; rotate_right 1; intro p1 c1 w1 ho1 hg1; have HO1 := Lib.hid ho1; have HG1 := Lib.hid hg1; clear ho1 hg1)
              | (at_builtin; refine wpList_append_own _ rfl _ _ 67 rfl wo.heap.size 3 i0 (.int .i64 0) 1 8 Try.underlying67 hi hz0 hz1 hz2 rfl (by decide) (.slice p1 0 c1) 0 (intCells (([] : List Nat).take 0)) rfl ?b1q1 ⟨w1.heap.size, 0, none⟩ 1 1 [.int .i64 (n : Int)] rfl rfl ?b2q1 ?b3q1 ?b4q1 ?b5q1 ?b6q1 ?_; rotate_right 1; intro v2 w2 ho2 hg2 hn2; obtain ⟨p2, c2, rfl⟩ := owns_shape ho2; have HO2 := Lib.hid ho2; have HG2 := Lib.hid hg2; clear ho2 hg2 hn2)
              | (at_builtin; refine wpList_append_reads rfl _ _ 67 rfl wo.heap.size 3 i0 (.int .i64 0) 1 8 Try.underlying67 hi hz0 hz1 hz2 rfl (by decide) (.slice p2 (0 + 1) c2) (0 + 1) (intCells (([] : List Nat).take 0) ++ [.int .i64 (n : Int)]) rfl ?e1q1 _ (([] : List Nat).length - 0) (intCells (([] : List Nat).drop 0)) rfl ?e2q1 (int_one _) ?e4q1 ?e5q1 ?e6q1 ?_; rotate_right 1; intro p3 c3 w3 ho3 hg3; have HO3 := Lib.hid ho3; have HG3 := Lib.hid hg3; clear ho3 hg3))
            try case a1q1 => exact owns_empty (heap_alloc_new _ _) (Nat.le_refl _)
            try case a2q1 => exact reads_nil _ 1
            try case a3q1 => unfold maxLen; omega
            try case a4q1 => omega
            try case a5q1 => simp
            try case b1q1 => exact owns_below HO1.out (below1 _ _)
            try case b2q1 =>
              intro j u hu
              rw [add_lit, Nat.zero_add, cell_of_row _ _ _ _ 3 _ (heap_alloc_new _ _)]
              simpa using hu
            try case b3q1 => first | rfl | (intro u hu; rw [List.mem_singleton] at hu; subst hu; rfl) | simp [Value.oneCell']
            try case b4q1 => unfold maxLen; omega
            try case b5q1 => omega
            try case b6q1 => have := HG1.out.size; simp at *; omega
            try case e1q1 => exact HO2.out
            try case e2q1 => exact reads_nil _ 1
            try case e4q1 => unfold maxLen; omega
            try case e5q1 => omega
            try case e6q1 => have := HG1.out.size; have := HG2.out.size; simp at *; omega
            case roundEnd =>
              have N3 : Below wo.heap.size wo w3 := below_grown (below_grown (nb_alloc (Below.grown (nb_alloc (nb_refl wo) _) HG1.out (by simp) (fun j hj => by have := Option.some.inj hj; omega)) _) (owns_below HO1.out (below1 _ _)) HG2.out) HO2.out HG3.out
              refine ⟨⟨k + 1, ([] : List Nat).take 0 ++ n :: ([] : List Nat).drop 0, by omega, by go_num, ?_, ⟨by simp [StrictN], fun m => ?_⟩, ?_, below_then hbl.out N3⟩, by simp [intOf]; omega⟩
              · show _ ≤ _
                rw [List.length_append, List.length_cons, List.length_take, List.length_drop]
                have := hLk.out
                omega
              · rw [hasN_snoc hlt, HN.out, ← hL.out.2 m]
                have e : m ∈ ([] : List Nat).take 0 ++ n :: ([] : List Nat).drop 0 ↔ m ∈ ([] : List Nat) ∨ m = n := by
                  have h1 : m ∈ ([] : List Nat) ↔ m ∈ ([] : List Nat).take 0 ∨ m ∈ ([] : List Nat).drop 0 := by rw [← List.mem_append, List.take_append_drop]
                  rw [List.mem_append, List.mem_cons, h1]
                  constructor
                  · rintro (h | h | h)
                    · exact .inl (.inl h)
                    · exact .inr h
                    · exact .inl (.inr h)
                  · rintro ((h | h) | h)
                    · exact .inl h
                    · exact .inr (.inr h)
                    · exact .inr (.inl h)
                rw [e]
                constructor
                · rintro (h | h)
                  · exact .inl h
                  · exact .inr (by rw [h])
                · rintro (h | h)
                  · exact .inl h
                  · exact .inr (Option.some.inj h).symm
              · have e1 : (([] : List Nat).take 0 ++ n :: ([] : List Nat).drop 0).length = 0 + 1 + (([] : List Nat).length - 0) := by rw [List.length_append, List.length_cons, List.length_take, List.length_drop]; omega
                have e2 : intCells (([] : List Nat).take 0 ++ n :: ([] : List Nat).drop 0) = intCells (([] : List Nat).take 0) ++ [.int .i64 (n : Int)] ++ intCells (([] : List Nat).drop 0) := by simp [intCells]
                refine ⟨?_, ⟨fun h => ?_, fun h => ?_⟩⟩
                · rw [e1, e2]
                  have h3 := owns_mono HO3.out hbl.out.size
                  first
                    | exact h3
                    | (have hz : ([] : List Nat).length - 0 = 0 := by have hte := HTE.out; omega
                       rw [hz] at h3 ⊢
                       exact h3)
                · simp only [Value.slice.injEq] at h; omega
                · have := congrArg List.length h; rw [e1] at this; simp at this
        · obtain ⟨g, cap2, rfl, hlc, hcm, hgl, hBg, hcell⟩ := hown.out.is hnil
          have hcm2 : cap2 ≤ 9223372036854775807 := by unfold maxLen at hcm; omega
          have HCELL := Lib.hid hcell
          have hLb : L.length ≤ 1099511627776 := by have := hLk.out; omega
          clear hcell
          go_wp2_with (go_at_call 58; refine (HNUM.out _ hp).mono ?_; rintro e w1 ⟨rfl, rfl⟩; unfold numI)
          go_loop [8] (fun a => ∃ t : Nat, a = .int .i64 (t : Int) ∧ t ≤ L.length ∧ Hid (∀ x ∈ L.drop t, n ≤ x)) (fun a => (intOf a).toNat)
          case atStart => exact ⟨L.length, rfl, Nat.le_refl _, fun x hx => by rw [List.drop_eq_nil_of_le (Nat.le_refl _)] at hx; cases hx⟩
          case round =>
            obtain ⟨t, rfl, htL, HC⟩ := hrel
            by_cases h0 : 0 < t
            · obtain ⟨s, rfl⟩ : ∃ s, t = s + 1 := ⟨t - 1, by omega⟩
              have hsL : s < L.length := by omega
              obtain ⟨z, hz⟩ : ∃ z, L[s] = z := ⟨_, rfl⟩
              have cz := HCELL.out s hsL
              rw [hz] at cz
              have HZ := Lib.hid hz
              have b1 : (0 : Int) < (s : Int) + 1 := by omega
              have b2 : (s : Int) < (L.length : Int) := by omega
              have b3 : (0 : Int) ≤ (s : Int) + 1 := by omega
              have w3 : IntKind.i64.wrap ((s : Int) + 1 - 1) = (s : Int) := by rw [show (s : Int) + 1 - 1 = (s : Int) by omega]; exact IntWalk.i64_in _ (by omega)
              have w4 : IntKind.i64.wrap (s : Int) = (s : Int) := IntWalk.i64_in _ (by omega)
              clear hz
              by_cases hge : n ≤ z
              · have b4 : (n : Int) ≤ (z : Int) := by omega
                have b5 : ¬ (z : Int) < (n : Int) := by omega
                have b6 : decide ((n : Int) ≤ (z : Int)) = true := decide_eq_true b4
                go_wp2_with fail
                go_round
                case rel =>
                  refine ⟨s, by go_num, by omega, fun x hx => ?_⟩
                  rw [List.drop_eq_getElem_cons hsL, HZ.out] at hx
                  rcases List.mem_cons.1 hx with rfl | hx
                  · exact hge
                  · exact HC.out x hx
                case measure => simp [intOf]
              · have b4 : ¬ (n : Int) ≤ (z : Int) := by omega
                have hA : ∀ a ∈ L.take (s + 1), a < n := fun a ha => by
                  rw [List.take_succ_eq_append_getElem hsL, HZ.out] at ha
                  rcases List.mem_append.1 ha with ha | ha
                  · have h3 := List.pairwise_append.1 (show (L.take s ++ L.drop s).Pairwise (· < ·) by rw [List.take_append_drop]; exact hL.out.1)
                    have h4 := h3.2.2 a ha z (by rw [List.drop_eq_getElem_cons hsL, HZ.out]; simp)
                    omega
                  · rw [List.mem_singleton] at ha; omega
                have HA := Lib.hid hA
                clear hA cz
                obtain ⟨t, ht⟩ : ∃ t, s + 1 = t := ⟨_, rfl⟩
                have htI : (s : Int) + 1 = (t : Int) := by omega
                have b1t : (0 : Int) < (t : Int) := by omega
                have htL2 : t ≤ L.length := by omega
                rw [show ((s + 1 : Nat) : Int) = (t : Int) by omega]
                have HC2 : Hid (∀ x ∈ L.drop t, n ≤ x) := ht ▸ HC
                have HA2 : Hid (∀ a ∈ L.take t, a < n) := ht ▸ HA
                have cz2 : wo.cell? ⟨g, s, none⟩ = some (.int .i64 (z : Int)) := by rw [← HZ.out]; exact HCELL.out s hsL
                have w5 : IntKind.i64.wrap ((t : Int) - 1) = (s : Int) := by rw [show (t : Int) - 1 = (s : Int) by omega]; exact IntWalk.i64_in _ (by omega)
                have b9 : ¬ (z : Int) ≥ (n : Int) := by omega
                clear HC HA b1 b3 w3 w4 htI ht
                have hpt := OwnI.parts hown.out.1 rfl t (by omega) hlc hcm
                have HP1 : Hid (∀ W, Below wo.heap.size wo W → _) := Lib.hid fun W hW => hpt.1.below hW
                have HP2 : Hid (∀ W, Below wo.heap.size wo W → _) := Lib.hid fun W hW => hpt.2.below hW
                clear hpt
                have j1 : (0 : Int) ≤ (t : Int) := by omega
                have j2 : (t : Int) ≤ (cap2 : Int) := by omega
                have j3 : (t : Int) ≤ (L.length : Int) := by omega
                have j4 : (L.length : Int) ≤ (cap2 : Int) := by omega
                by_cases hin : t < L.length
                · obtain ⟨y, hy⟩ : ∃ y, L[t] = y := ⟨_, rfl⟩
                  have cy := HCELL.out t hin
                  rw [hy] at cy
                  have HY := Lib.hid hy
                  have b7 : (t : Int) < (L.length : Int) := by omega
                  clear hy
                  by_cases heq : y = n
                  · have q1 : ((y : Int) == (n : Int)) = true := by rw [beq_iff_eq]; omega
                    have q2 : (y : Int) = (n : Int) := by omega
                    have HEQ := Lib.hid heq
                    clear heq
                    go_wp2_with fail
                    go_roundw
                    case rel =>
                      refine ⟨k + 1, L, by omega, by go_num, Nat.le_succ_of_le hLk.out, ⟨hL.out.1, fun m => ?_⟩, hown.out, hbl.out⟩
                      rw [hasN_snoc hlt, HN.out, ← hL.out.2 m]
                      constructor
                      · exact .inl
                      · rintro (h | h)
                        · exact h
                        · have e : m = n := (Option.some.inj h).symm
                          rw [e, ← HEQ.out, ← HY.out]
                          exact List.getElem_mem _
                    case measure => simp [intOf]; omega
                  · have q1 : ((y : Int) == (n : Int)) = false := by rw [beq_eq_false_iff_ne]; omega
                    have q2 : ¬ (y : Int) = (n : Int) := by omega
                    have hst : ∀ c ∈ L.drop t, n < c := fun c hc => by
                      have h1 := HC2.out c hc
                      rw [List.drop_eq_getElem_cons hin] at hc
                      have h2 := HC2.out L[t] (by rw [List.drop_eq_getElem_cons hin]; exact List.mem_cons_self)
                      rw [HY.out] at h2 hc
                      rcases List.mem_cons.1 hc with rfl | hc
                      · omega
                      · have h3 := List.pairwise_append.1 (show (L.take (t + 1) ++ L.drop (t + 1)).Pairwise (· < ·) by rw [List.take_append_drop]; exact hL.out.1)
                        have h4 := h3.2.2 y (by rw [List.take_succ_eq_append_getElem hin, HY.out]; simp) c hc
                        omega
                    have HST := Lib.hid hst
                    have hct : ¬ cap2 = t := by omega
                    clear hst heq
                    go_wp2_with (first
                      | (at_builtin; refine wpList_append_first rfl _ _ 67 rfl wo.heap.size 3 i0 (.int .i64 0) 1 8 Try.underlying67 hi hz0 hz1 hz2 rfl (by decide) wo.heap.size rfl ?a1q2 _ t (intCells (L.take t)) rfl ?a2q2 (int_one _) ?a3q2 ?a4q2 ?a5q2 ?_; rotate_right 1; intro p1 c1 w1 ho1 hg1; have HO1 := Lib.hid ho1; have HG1 := Lib.hid hg1; clear ho1 hg1)
                      | (at_builtin; refine wpList_append_own _ rfl _ _ 67 rfl wo.heap.size 3 i0 (.int .i64 0) 1 8 Try.underlying67 hi hz0 hz1 hz2 rfl (by decide) (.slice p1 t c1) t (intCells (L.take t)) rfl ?b1q2 ⟨w1.heap.size, 0, none⟩ 1 1 [.int .i64 (n : Int)] rfl rfl ?b2q2 ?b3q2 ?b4q2 ?b5q2 ?b6q2 ?_; rotate_right 1; intro v2 w2 ho2 hg2 hn2; obtain ⟨p2, c2, rfl⟩ := owns_shape ho2; have HO2 := Lib.hid ho2; have HG2 := Lib.hid hg2; clear ho2 hg2 hn2)
                      | (at_builtin; refine wpList_append_reads rfl _ _ 67 rfl wo.heap.size 3 i0 (.int .i64 0) 1 8 Try.underlying67 hi hz0 hz1 hz2 rfl (by decide) (.slice p2 (t + 1) c2) (t + 1) (intCells (L.take t) ++ [.int .i64 (n : Int)]) rfl ?e1q2 _ (L.length - t) (intCells (L.drop t)) rfl ?e2q2 (int_one _) ?e4q2 ?e5q2 ?e6q2 ?_; rotate_right 1; intro p3 c3 w3 ho3 hg3; have HO3 := Lib.hid ho3; have HG3 := Lib.hid hg3; clear ho3 hg3))
                    try case a1q2 => exact owns_empty (heap_alloc_new _ _) (Nat.le_refl _)
                    try case a2q2 => exact HP1.out _ (nb_alloc (nb_refl _) _)
                    try case a3q2 => unfold maxLen; omega
                    try case a4q2 => omega
                    try case a5q2 => simp
                    try case b1q2 => exact owns_below HO1.out (below1 _ _)
                    try case b2q2 =>
                      intro j u hu
                      rw [add_lit, Nat.zero_add, cell_of_row _ _ _ _ 3 _ (heap_alloc_new _ _)]
                      simpa using hu
                    try case b3q2 => first | rfl | (intro u hu; rw [List.mem_singleton] at hu; subst hu; rfl) | simp [Value.oneCell']
                    try case b4q2 => unfold maxLen; omega
                    try case b5q2 => omega
                    try case b6q2 => have := HG1.out.size; simp at *; omega
                    try case e1q2 => exact HO2.out
                    try case e2q2 => exact HP2.out _ (below_grown (nb_alloc (Below.grown (nb_alloc (nb_refl wo) _) HG1.out (by simp) (fun j hj => by have := Option.some.inj hj; omega)) _) (owns_below HO1.out (below1 _ _)) HG2.out)
                    try case e4q2 => unfold maxLen; omega
                    try case e5q2 => omega
                    try case e6q2 => have := HG1.out.size; have := HG2.out.size; simp at *; omega
                    case roundEnd =>
                      have N3 : Below wo.heap.size wo w3 := below_grown (below_grown (nb_alloc (Below.grown (nb_alloc (nb_refl wo) _) HG1.out (by simp) (fun j hj => by have := Option.some.inj hj; omega)) _) (owns_below HO1.out (below1 _ _)) HG2.out) HO2.out HG3.out
                      refine ⟨⟨k + 1, L.take t ++ n :: L.drop t, by omega, by go_num, ?_, ⟨strict_put (by rw [List.take_append_drop]; exact hL.out.1) HA2.out HST.out, fun m => ?_⟩, ?_, below_then hbl.out N3⟩, by simp [intOf]; omega⟩
                      · show _ ≤ _
                        rw [List.length_append, List.length_cons, List.length_take, List.length_drop]
                        have := hLk.out
                        omega
                      · rw [hasN_snoc hlt, HN.out, ← hL.out.2 m]
                        have e : m ∈ L.take t ++ n :: L.drop t ↔ m ∈ L ∨ m = n := by
                          have h1 : m ∈ L ↔ m ∈ L.take t ∨ m ∈ L.drop t := by rw [← List.mem_append, List.take_append_drop]
                          rw [List.mem_append, List.mem_cons, h1]
                          constructor
                          · rintro (h | h | h)
                            · exact .inl (.inl h)
                            · exact .inr h
                            · exact .inl (.inr h)
                          · rintro ((h | h) | h)
                            · exact .inl h
                            · exact .inr (.inr h)
                            · exact .inr (.inl h)
                        rw [e]
                        constructor
                        · rintro (h | h)
                          · exact .inl h
                          · exact .inr (by rw [h])
                        · rintro (h | h)
                          · exact .inl h
                          · exact .inr (Option.some.inj h).symm
                      · have e1 : (L.take t ++ n :: L.drop t).length = t + 1 + (L.length - t) := by rw [List.length_append, List.length_cons, List.length_take, List.length_drop]; omega
                        have e2 : intCells (L.take t ++ n :: L.drop t) = intCells (L.take t) ++ [.int .i64 (n : Int)] ++ intCells (L.drop t) := by simp [intCells]
                        refine ⟨?_, ⟨fun h => ?_, fun h => ?_⟩⟩
                        · rw [e1, e2]
                          have h3 := owns_mono HO3.out hbl.out.size
                          first
                            | exact h3
                            | (have hz : L.length - t = 0 := by have hte := HTE.out; omega
                               rw [hz] at h3 ⊢
                               exact h3)
                        · simp only [Value.slice.injEq] at h; omega
                        · have := congrArg List.length h; rw [e1] at this; simp at this
                · have hte : t = L.length := by omega
                  have b7 : ¬ (t : Int) < (L.length : Int) := by omega
                  have hst : ∀ c ∈ L.drop t, n < c := fun c hc => by rw [List.drop_eq_nil_of_le (by omega)] at hc; cases hc
                  have HST := Lib.hid hst
                  have HTE := Lib.hid hte
                  clear hst hte
                  by_cases hct : cap2 = t
                  · have hct2 : t = cap2 := hct.symm
                    subst hct2
                    go_wp2_with (first
                      | (at_builtin; refine wpList_append_first rfl _ _ 67 rfl wo.heap.size 3 i0 (.int .i64 0) 1 8 Try.underlying67 hi hz0 hz1 hz2 rfl (by decide) wo.heap.size rfl ?a1q3 _ t (intCells (L.take t)) rfl ?a2q3 (int_one _) ?a3q3 ?a4q3 ?a5q3 ?_; rotate_right 1; intro p1 c1 w1 ho1 hg1; have HO1 := Lib.hid ho1; have HG1 := Lib.hid hg1; clear ho1 hg1)
                      | (at_builtin; refine wpList_append_own _ rfl _ _ 67 rfl wo.heap.size 3 i0 (.int .i64 0) 1 8 Try.underlying67 hi hz0 hz1 hz2 rfl (by decide) (.slice p1 t c1) t (intCells (L.take t)) rfl ?b1q3 ⟨w1.heap.size, 0, none⟩ 1 1 [.int .i64 (n : Int)] rfl rfl ?b2q3 ?b3q3 ?b4q3 ?b5q3 ?b6q3 ?_; rotate_right 1; intro v2 w2 ho2 hg2 hn2; obtain ⟨p2, c2, rfl⟩ := owns_shape ho2; have HO2 := Lib.hid ho2; have HG2 := Lib.hid hg2; clear ho2 hg2 hn2)
                      | (at_builtin; refine wpList_append_reads rfl _ _ 67 rfl wo.heap.size 3 i0 (.int .i64 0) 1 8 Try.underlying67 hi hz0 hz1 hz2 rfl (by decide) (.slice p2 (t + 1) c2) (t + 1) (intCells (L.take t) ++ [.int .i64 (n : Int)]) rfl ?e1q3 _ (L.length - t) (intCells (L.drop t)) rfl ?e2q3 (int_one _) ?e4q3 ?e5q3 ?e6q3 ?_; rotate_right 1; intro p3 c3 w3 ho3 hg3; have HO3 := Lib.hid ho3; have HG3 := Lib.hid hg3; clear ho3 hg3))
                    try case a1q3 => exact owns_empty (heap_alloc_new _ _) (Nat.le_refl _)
                    try case a2q3 => exact HP1.out _ (nb_alloc (nb_refl _) _)
                    try case a3q3 => unfold maxLen; omega
                    try case a4q3 => omega
                    try case a5q3 => simp
                    try case b1q3 => exact owns_below HO1.out (below1 _ _)
                    try case b2q3 =>
                      intro j u hu
                      rw [add_lit, Nat.zero_add, cell_of_row _ _ _ _ 3 _ (heap_alloc_new _ _)]
                      simpa using hu
                    try case b3q3 => first | rfl | (intro u hu; rw [List.mem_singleton] at hu; subst hu; rfl) | simp [Value.oneCell']
                    try case b4q3 => unfold maxLen; omega
                    try case b5q3 => omega
                    try case b6q3 => have := HG1.out.size; simp at *; omega
                    try case e1q3 => exact HO2.out
                    try case e2q3 => (have hte := HTE.out); (have hz : L.length - t = 0 := by omega); (have hdz : L.drop t = [] := List.drop_eq_nil_of_le (by omega)); rw [hdz]; (try rw [hz]); exact ⟨rfl, .inr ⟨_, _, rfl, Nat.zero_le _, by unfold maxLen; omega, fun j u hu => by cases hu⟩⟩
                    try case e4q3 => unfold maxLen; omega
                    try case e5q3 => omega
                    try case e6q3 => have := HG1.out.size; have := HG2.out.size; simp at *; omega
                    case roundEnd =>
                      have N3 : Below wo.heap.size wo w3 := below_grown (below_grown (nb_alloc (Below.grown (nb_alloc (nb_refl wo) _) HG1.out (by simp) (fun j hj => by have := Option.some.inj hj; omega)) _) (owns_below HO1.out (below1 _ _)) HG2.out) HO2.out HG3.out
                      refine ⟨⟨k + 1, L.take t ++ n :: L.drop t, by omega, by go_num, ?_, ⟨strict_put (by rw [List.take_append_drop]; exact hL.out.1) HA2.out HST.out, fun m => ?_⟩, ?_, below_then hbl.out N3⟩, by simp [intOf]; omega⟩
                      · show _ ≤ _
                        rw [List.length_append, List.length_cons, List.length_take, List.length_drop]
                        have := hLk.out
                        omega
                      · rw [hasN_snoc hlt, HN.out, ← hL.out.2 m]
                        have e : m ∈ L.take t ++ n :: L.drop t ↔ m ∈ L ∨ m = n := by
                          have h1 : m ∈ L ↔ m ∈ L.take t ∨ m ∈ L.drop t := by rw [← List.mem_append, List.take_append_drop]
                          rw [List.mem_append, List.mem_cons, h1]
                          constructor
                          · rintro (h | h | h)
                            · exact .inl (.inl h)
                            · exact .inr h
                            · exact .inl (.inr h)
                          · rintro ((h | h) | h)
                            · exact .inl h
                            · exact .inr (.inr h)
                            · exact .inr (.inl h)
                        rw [e]
                        constructor
                        · rintro (h | h)
                          · exact .inl h
                          · exact .inr (by rw [h])
                        · rintro (h | h)
                          · exact .inl h
                          · exact .inr (Option.some.inj h).symm
                      · have e1 : (L.take t ++ n :: L.drop t).length = t + 1 + (L.length - t) := by rw [List.length_append, List.length_cons, List.length_take, List.length_drop]; omega
                        have e2 : intCells (L.take t ++ n :: L.drop t) = intCells (L.take t) ++ [.int .i64 (n : Int)] ++ intCells (L.drop t) := by simp [intCells]
                        refine ⟨?_, ⟨fun h => ?_, fun h => ?_⟩⟩
                        · rw [e1, e2]
                          have h3 := owns_mono HO3.out hbl.out.size
                          first
                            | exact h3
                            | (have hz : L.length - t = 0 := by have hte := HTE.out; omega
                               rw [hz] at h3 ⊢
                               exact h3)
                        · simp only [Value.slice.injEq] at h; omega
                        · have := congrArg List.length h; rw [e1] at this; simp at this
                  · skip
                    go_wp2_with (first
                      | (at_builtin; refine wpList_append_first rfl _ _ 67 rfl wo.heap.size 3 i0 (.int .i64 0) 1 8 Try.underlying67 hi hz0 hz1 hz2 rfl (by decide) wo.heap.size rfl ?a1q4 _ t (intCells (L.take t)) rfl ?a2q4 (int_one _) ?a3q4 ?a4q4 ?a5q4 ?_; rotate_right 1; intro p1 c1 w1 ho1 hg1; have HO1 := Lib.hid ho1; have HG1 := Lib.hid hg1; clear ho1 hg1)
                      | (at_builtin; refine wpList_append_own _ rfl _ _ 67 rfl wo.heap.size 3 i0 (.int .i64 0) 1 8 Try.underlying67 hi hz0 hz1 hz2 rfl (by decide) (.slice p1 t c1) t (intCells (L.take t)) rfl ?b1q4 ⟨w1.heap.size, 0, none⟩ 1 1 [.int .i64 (n : Int)] rfl rfl ?b2q4 ?b3q4 ?b4q4 ?b5q4 ?b6q4 ?_; rotate_right 1; intro v2 w2 ho2 hg2 hn2; obtain ⟨p2, c2, rfl⟩ := owns_shape ho2; have HO2 := Lib.hid ho2; have HG2 := Lib.hid hg2; clear ho2 hg2 hn2)
                      | (at_builtin; refine wpList_append_reads rfl _ _ 67 rfl wo.heap.size 3 i0 (.int .i64 0) 1 8 Try.underlying67 hi hz0 hz1 hz2 rfl (by decide) (.slice p2 (t + 1) c2) (t + 1) (intCells (L.take t) ++ [.int .i64 (n : Int)]) rfl ?e1q4 _ (L.length - t) (intCells (L.drop t)) rfl ?e2q4 (int_one _) ?e4q4 ?e5q4 ?e6q4 ?_; rotate_right 1; intro p3 c3 w3 ho3 hg3; have HO3 := Lib.hid ho3; have HG3 := Lib.hid hg3; clear ho3 hg3))
                    try case a1q4 => exact owns_empty (heap_alloc_new _ _) (Nat.le_refl _)
                    try case a2q4 => exact HP1.out _ (nb_alloc (nb_refl _) _)
                    try case a3q4 => unfold maxLen; omega
                    try case a4q4 => omega
                    try case a5q4 => simp
                    try case b1q4 => exact owns_below HO1.out (below1 _ _)
                    try case b2q4 =>
                      intro j u hu
                      rw [add_lit, Nat.zero_add, cell_of_row _ _ _ _ 3 _ (heap_alloc_new _ _)]
                      simpa using hu
                    try case b3q4 => first | rfl | (intro u hu; rw [List.mem_singleton] at hu; subst hu; rfl) | simp [Value.oneCell']
                    try case b4q4 => unfold maxLen; omega
                    try case b5q4 => omega
                    try case b6q4 => have := HG1.out.size; simp at *; omega
                    try case e1q4 => exact HO2.out
                    try case e2q4 => exact HP2.out _ (below_grown (nb_alloc (Below.grown (nb_alloc (nb_refl wo) _) HG1.out (by simp) (fun j hj => by have := Option.some.inj hj; omega)) _) (owns_below HO1.out (below1 _ _)) HG2.out)
                    try case e4q4 => unfold maxLen; omega
                    try case e5q4 => omega
                    try case e6q4 => have := HG1.out.size; have := HG2.out.size; simp at *; omega
                    case roundEnd =>
                      have N3 : Below wo.heap.size wo w3 := below_grown (below_grown (nb_alloc (Below.grown (nb_alloc (nb_refl wo) _) HG1.out (by simp) (fun j hj => by have := Option.some.inj hj; omega)) _) (owns_below HO1.out (below1 _ _)) HG2.out) HO2.out HG3.out
                      refine ⟨⟨k + 1, L.take t ++ n :: L.drop t, by omega, by go_num, ?_, ⟨strict_put (by rw [List.take_append_drop]; exact hL.out.1) HA2.out HST.out, fun m => ?_⟩, ?_, below_then hbl.out N3⟩, by simp [intOf]; omega⟩
                      · show _ ≤ _
                        rw [List.length_append, List.length_cons, List.length_take, List.length_drop]
                        have := hLk.out
                        omega
                      · rw [hasN_snoc hlt, HN.out, ← hL.out.2 m]
                        have e : m ∈ L.take t ++ n :: L.drop t ↔ m ∈ L ∨ m = n := by
                          have h1 : m ∈ L ↔ m ∈ L.take t ∨ m ∈ L.drop t := by rw [← List.mem_append, List.take_append_drop]
                          rw [List.mem_append, List.mem_cons, h1]
                          constructor
                          · rintro (h | h | h)
                            · exact .inl (.inl h)
                            · exact .inr h
                            · exact .inl (.inr h)
                          · rintro ((h | h) | h)
                            · exact .inl h
                            · exact .inr (.inr h)
                            · exact .inr (.inl h)
                        rw [e]
                        constructor
                        · rintro (h | h)
                          · exact .inl h
                          · exact .inr (by rw [h])
                        · rintro (h | h)
                          · exact .inl h
                          · exact .inr (Option.some.inj h).symm
                      · have e1 : (L.take t ++ n :: L.drop t).length = t + 1 + (L.length - t) := by rw [List.length_append, List.length_cons, List.length_take, List.length_drop]; omega
                        have e2 : intCells (L.take t ++ n :: L.drop t) = intCells (L.take t) ++ [.int .i64 (n : Int)] ++ intCells (L.drop t) := by simp [intCells]
                        refine ⟨?_, ⟨fun h => ?_, fun h => ?_⟩⟩
                        · rw [e1, e2]
                          have h3 := owns_mono HO3.out hbl.out.size
                          first
                            | exact h3
                            | (have hz : L.length - t = 0 := by have hte := HTE.out; omega
                               rw [hz] at h3 ⊢
                               exact h3)
                        · simp only [Value.slice.injEq] at h; omega
                        · have := congrArg List.length h; rw [e1] at this; simp at this
            · obtain rfl : t = 0 := by omega
              have HA2 : Hid (∀ a ∈ L.take 0, a < n) := Lib.hid fun a ha => by rw [List.take_zero] at ha; cases ha
              obtain ⟨t, ht0⟩ : ∃ t : Nat, t = 0 := ⟨0, rfl⟩
              have htL2 : t ≤ L.length := by omega
              rw [show ((0 : Nat) : Int) = (t : Int) by omega]
              have HC2 : Hid (∀ x ∈ L.drop t, n ≤ x) := by rw [ht0]; exact HC
              have HA2 : Hid (∀ a ∈ L.take t, a < n) := by rw [ht0]; exact HA2
              have b1t : ¬ (0 : Int) < (t : Int) := by omega
              clear HC ht0
              have hpt := OwnI.parts hown.out.1 rfl t (by omega) hlc hcm
              have HP1 : Hid (∀ W, Below wo.heap.size wo W → _) := Lib.hid fun W hW => hpt.1.below hW
              have HP2 : Hid (∀ W, Below wo.heap.size wo W → _) := Lib.hid fun W hW => hpt.2.below hW
              clear hpt
              have j1 : (0 : Int) ≤ (t : Int) := by omega
              have j2 : (t : Int) ≤ (cap2 : Int) := by omega
              have j3 : (t : Int) ≤ (L.length : Int) := by omega
              have j4 : (L.length : Int) ≤ (cap2 : Int) := by omega
              by_cases hin : t < L.length
              · obtain ⟨y, hy⟩ : ∃ y, L[t] = y := ⟨_, rfl⟩
                have cy := HCELL.out t hin
                rw [hy] at cy
                have HY := Lib.hid hy
                have b7 : (t : Int) < (L.length : Int) := by omega
                clear hy
                by_cases heq : y = n
                · have q1 : ((y : Int) == (n : Int)) = true := by rw [beq_iff_eq]; omega
                  have q2 : (y : Int) = (n : Int) := by omega
                  have HEQ := Lib.hid heq
                  clear heq
                  go_wp2_with fail
                  go_roundw
                  case rel =>
                    refine ⟨k + 1, L, by omega, by go_num, Nat.le_succ_of_le hLk.out, ⟨hL.out.1, fun m => ?_⟩, hown.out, hbl.out⟩
                    rw [hasN_snoc hlt, HN.out, ← hL.out.2 m]
                    constructor
                    · exact .inl
                    · rintro (h | h)
                      · exact h
                      · have e : m = n := (Option.some.inj h).symm
                        rw [e, ← HEQ.out, ← HY.out]
                        exact List.getElem_mem _
                  case measure => simp [intOf]; omega
                · have q1 : ((y : Int) == (n : Int)) = false := by rw [beq_eq_false_iff_ne]; omega
                  have q2 : ¬ (y : Int) = (n : Int) := by omega
                  have hst : ∀ c ∈ L.drop t, n < c := fun c hc => by
                    have h1 := HC2.out c hc
                    rw [List.drop_eq_getElem_cons hin] at hc
                    have h2 := HC2.out L[t] (by rw [List.drop_eq_getElem_cons hin]; exact List.mem_cons_self)
                    rw [HY.out] at h2 hc
                    rcases List.mem_cons.1 hc with rfl | hc
                    · omega
                    · have h3 := List.pairwise_append.1 (show (L.take (t + 1) ++ L.drop (t + 1)).Pairwise (· < ·) by rw [List.take_append_drop]; exact hL.out.1)
                      have h4 := h3.2.2 y (by rw [List.take_succ_eq_append_getElem hin, HY.out]; simp) c hc
                      omega
                  have HST := Lib.hid hst
                  have hct : ¬ cap2 = t := by omega
                  clear hst heq
                  go_wp2_with (first
                    | (at_builtin; refine wpList_append_first rfl _ _ 67 rfl wo.heap.size 3 i0 (.int .i64 0) 1 8 Try.underlying67 hi hz0 hz1 hz2 rfl (by decide) wo.heap.size rfl ?a1q5 _ t (intCells (L.take t)) rfl ?a2q5 (int_one _) ?a3q5 ?a4q5 ?a5q5 ?_; rotate_right 1; intro p1 c1 w1 ho1 hg1; have HO1 := Lib.hid ho1; have HG1 := Lib.hid hg1; clear ho1 hg1)
                    | (at_builtin; refine wpList_append_own _ rfl _ _ 67 rfl wo.heap.size 3 i0 (.int .i64 0) 1 8 Try.underlying67 hi hz0 hz1 hz2 rfl (by decide) (.slice p1 t c1) t (intCells (L.take t)) rfl ?b1q5 ⟨w1.heap.size, 0, none⟩ 1 1 [.int .i64 (n : Int)] rfl rfl ?b2q5 ?b3q5 ?b4q5 ?b5q5 ?b6q5 ?_; rotate_right 1; intro v2 w2 ho2 hg2 hn2; obtain ⟨p2, c2, rfl⟩ := owns_shape ho2; have HO2 := Lib.hid ho2; have HG2 := Lib.hid hg2; clear ho2 hg2 hn2)
                    | (at_builtin; refine wpList_append_reads rfl _ _ 67 rfl wo.heap.size 3 i0 (.int .i64 0) 1 8 Try.underlying67 hi hz0 hz1 hz2 rfl (by decide) (.slice p2 (t + 1) c2) (t + 1) (intCells (L.take t) ++ [.int .i64 (n : Int)]) rfl ?e1q5 _ (L.length - t) (intCells (L.drop t)) rfl ?e2q5 (int_one _) ?e4q5 ?e5q5 ?e6q5 ?_; rotate_right 1; intro p3 c3 w3 ho3 hg3; have HO3 := Lib.hid ho3; have HG3 := Lib.hid hg3; clear ho3 hg3))
                  try case a1q5 => exact owns_empty (heap_alloc_new _ _) (Nat.le_refl _)
                  try case a2q5 => exact HP1.out _ (nb_alloc (nb_refl _) _)
                  try case a3q5 => unfold maxLen; omega
                  try case a4q5 => omega
                  try case a5q5 => simp
                  try case b1q5 => exact owns_below HO1.out (below1 _ _)
                  try case b2q5 =>
                    intro j u hu
                    rw [add_lit, Nat.zero_add, cell_of_row _ _ _ _ 3 _ (heap_alloc_new _ _)]
                    simpa using hu
                  try case b3q5 => first | rfl | (intro u hu; rw [List.mem_singleton] at hu; subst hu; rfl) | simp [Value.oneCell']
                  try case b4q5 => unfold maxLen; omega
                  try case b5q5 => omega
                  try case b6q5 => have := HG1.out.size; simp at *; omega
                  try case e1q5 => exact HO2.out
                  try case e2q5 => exact HP2.out _ (below_grown (nb_alloc (Below.grown (nb_alloc (nb_refl wo) _) HG1.out (by simp) (fun j hj => by have := Option.some.inj hj; omega)) _) (owns_below HO1.out (below1 _ _)) HG2.out)
                  try case e4q5 => unfold maxLen; omega
                  try case e5q5 => omega
                  try case e6q5 => have := HG1.out.size; have := HG2.out.size; simp at *; omega
                  case roundEnd =>
                    have N3 : Below wo.heap.size wo w3 := below_grown (below_grown (nb_alloc (Below.grown (nb_alloc (nb_refl wo) _) HG1.out (by simp) (fun j hj => by have := Option.some.inj hj; omega)) _) (owns_below HO1.out (below1 _ _)) HG2.out) HO2.out HG3.out
                    refine ⟨⟨k + 1, L.take t ++ n :: L.drop t, by omega, by go_num, ?_, ⟨strict_put (by rw [List.take_append_drop]; exact hL.out.1) HA2.out HST.out, fun m => ?_⟩, ?_, below_then hbl.out N3⟩, by simp [intOf]; omega⟩
                    · show _ ≤ _
                      rw [List.length_append, List.length_cons, List.length_take, List.length_drop]
                      have := hLk.out
                      omega
                    · rw [hasN_snoc hlt, HN.out, ← hL.out.2 m]
                      have e : m ∈ L.take t ++ n :: L.drop t ↔ m ∈ L ∨ m = n := by
                        have h1 : m ∈ L ↔ m ∈ L.take t ∨ m ∈ L.drop t := by rw [← List.mem_append, List.take_append_drop]
                        rw [List.mem_append, List.mem_cons, h1]
                        constructor
                        · rintro (h | h | h)
                          · exact .inl (.inl h)
                          · exact .inr h
                          · exact .inl (.inr h)
                        · rintro ((h | h) | h)
                          · exact .inl h
                          · exact .inr (.inr h)
                          · exact .inr (.inl h)
                      rw [e]
                      constructor
                      · rintro (h | h)
                        · exact .inl h
                        · exact .inr (by rw [h])
                      · rintro (h | h)
                        · exact .inl h
                        · exact .inr (Option.some.inj h).symm
                    · have e1 : (L.take t ++ n :: L.drop t).length = t + 1 + (L.length - t) := by rw [List.length_append, List.length_cons, List.length_take, List.length_drop]; omega
                      have e2 : intCells (L.take t ++ n :: L.drop t) = intCells (L.take t) ++ [.int .i64 (n : Int)] ++ intCells (L.drop t) := by simp [intCells]
                      refine ⟨?_, ⟨fun h => ?_, fun h => ?_⟩⟩
                      · rw [e1, e2]
                        have h3 := owns_mono HO3.out hbl.out.size
                        first
                          | exact h3
                          | (have hz : L.length - t = 0 := by have hte := HTE.out; omega
                             rw [hz] at h3 ⊢
                             exact h3)
                      · simp only [Value.slice.injEq] at h; omega
                      · have := congrArg List.length h; rw [e1] at this; simp at this
              · have hte : t = L.length := by omega
                have b7 : ¬ (t : Int) < (L.length : Int) := by omega
                have hst : ∀ c ∈ L.drop t, n < c := fun c hc => by rw [List.drop_eq_nil_of_le (by omega)] at hc; cases hc
                have HST := Lib.hid hst
                have HTE := Lib.hid hte
                clear hst hte
                by_cases hct : cap2 = t
                · have hct2 : t = cap2 := hct.symm
                  subst hct2
                  go_wp2_with (first
                    | (at_builtin; refine wpList_append_first rfl _ _ 67 rfl wo.heap.size 3 i0 (.int .i64 0) 1 8 Try.underlying67 hi hz0 hz1 hz2 rfl (by decide) wo.heap.size rfl ?a1q6 _ t (intCells (L.take t)) rfl ?a2q6 (int_one _) ?a3q6 ?a4q6 ?a5q6 ?_; rotate_right 1; intro p1 c1 w1 ho1 hg1; have HO1 := Lib.hid ho1; have HG1 := Lib.hid hg1; clear ho1 hg1)
                    | (at_builtin; refine wpList_append_own _ rfl _ _ 67 rfl wo.heap.size 3 i0 (.int .i64 0) 1 8 Try.underlying67 hi hz0 hz1 hz2 rfl (by decide) (.slice p1 t c1) t (intCells (L.take t)) rfl ?b1q6 ⟨w1.heap.size, 0, none⟩ 1 1 [.int .i64 (n : Int)] rfl rfl ?b2q6 ?b3q6 ?b4q6 ?b5q6 ?b6q6 ?_; rotate_right 1; intro v2 w2 ho2 hg2 hn2; obtain ⟨p2, c2, rfl⟩ := owns_shape ho2; have HO2 := Lib.hid ho2; have HG2 := Lib.hid hg2; clear ho2 hg2 hn2)
                    | (at_builtin; refine wpList_append_reads rfl _ _ 67 rfl wo.heap.size 3 i0 (.int .i64 0) 1 8 Try.underlying67 hi hz0 hz1 hz2 rfl (by decide) (.slice p2 (t + 1) c2) (t + 1) (intCells (L.take t) ++ [.int .i64 (n : Int)]) rfl ?e1q6 _ (L.length - t) (intCells (L.drop t)) rfl ?e2q6 (int_one _) ?e4q6 ?e5q6 ?e6q6 ?_; rotate_right 1; intro p3 c3 w3 ho3 hg3; have HO3 := Lib.hid ho3; have HG3 := Lib.hid hg3; clear ho3 hg3))
                  try case a1q6 => exact owns_empty (heap_alloc_new _ _) (Nat.le_refl _)
                  try case a2q6 => exact HP1.out _ (nb_alloc (nb_refl _) _)
                  try case a3q6 => unfold maxLen; omega
                  try case a4q6 => omega
                  try case a5q6 => simp
                  try case b1q6 => exact owns_below HO1.out (below1 _ _)
                  try case b2q6 =>
                    intro j u hu
                    rw [add_lit, Nat.zero_add, cell_of_row _ _ _ _ 3 _ (heap_alloc_new _ _)]
                    simpa using hu
                  try case b3q6 => first | rfl | (intro u hu; rw [List.mem_singleton] at hu; subst hu; rfl) | simp [Value.oneCell']
                  try case b4q6 => unfold maxLen; omega
                  try case b5q6 => omega
                  try case b6q6 => have := HG1.out.size; simp at *; omega
                  try case e1q6 => exact HO2.out
                  try case e2q6 => (have hte := HTE.out); (have hz : L.length - t = 0 := by omega); (have hdz : L.drop t = [] := List.drop_eq_nil_of_le (by omega)); rw [hdz]; (try rw [hz]); exact ⟨rfl, .inr ⟨_, _, rfl, Nat.zero_le _, by unfold maxLen; omega, fun j u hu => by cases hu⟩⟩
                  try case e4q6 => unfold maxLen; omega
                  try case e5q6 => omega
                  try case e6q6 => have := HG1.out.size; have := HG2.out.size; simp at *; omega
                  case roundEnd =>
                    have N3 : Below wo.heap.size wo w3 := below_grown (below_grown (nb_alloc (Below.grown (nb_alloc (nb_refl wo) _) HG1.out (by simp) (fun j hj => by have := Option.some.inj hj; omega)) _) (owns_below HO1.out (below1 _ _)) HG2.out) HO2.out HG3.out
                    refine ⟨⟨k + 1, L.take t ++ n :: L.drop t, by omega, by go_num, ?_, ⟨strict_put (by rw [List.take_append_drop]; exact hL.out.1) HA2.out HST.out, fun m => ?_⟩, ?_, below_then hbl.out N3⟩, by simp [intOf]; omega⟩
                    · show _ ≤ _
                      rw [List.length_append, List.length_cons, List.length_take, List.length_drop]
                      have := hLk.out
                      omega
                    · rw [hasN_snoc hlt, HN.out, ← hL.out.2 m]
                      have e : m ∈ L.take t ++ n :: L.drop t ↔ m ∈ L ∨ m = n := by
                        have h1 : m ∈ L ↔ m ∈ L.take t ∨ m ∈ L.drop t := by rw [← List.mem_append, List.take_append_drop]
                        rw [List.mem_append, List.mem_cons, h1]
                        constructor
                        · rintro (h | h | h)
                          · exact .inl (.inl h)
                          · exact .inr h
                          · exact .inl (.inr h)
                        · rintro ((h | h) | h)
                          · exact .inl h
                          · exact .inr (.inr h)
                          · exact .inr (.inl h)
                      rw [e]
                      constructor
                      · rintro (h | h)
                        · exact .inl h
                        · exact .inr (by rw [h])
                      · rintro (h | h)
                        · exact .inl h
                        · exact .inr (Option.some.inj h).symm
                    · have e1 : (L.take t ++ n :: L.drop t).length = t + 1 + (L.length - t) := by rw [List.length_append, List.length_cons, List.length_take, List.length_drop]; omega
                      have e2 : intCells (L.take t ++ n :: L.drop t) = intCells (L.take t) ++ [.int .i64 (n : Int)] ++ intCells (L.drop t) := by simp [intCells]
                      refine ⟨?_, ⟨fun h => ?_, fun h => ?_⟩⟩
                      · rw [e1, e2]
                        have h3 := owns_mono HO3.out hbl.out.size
                        first
                          | exact h3
                          | (have hz : L.length - t = 0 := by have hte := HTE.out; omega
                             rw [hz] at h3 ⊢
                             exact h3)
                      · simp only [Value.slice.injEq] at h; omega
                      · have := congrArg List.length h; rw [e1] at this; simp at this
                · skip
                  go_wp2_with (first
                    | (at_builtin; refine wpList_append_first rfl _ _ 67 rfl wo.heap.size 3 i0 (.int .i64 0) 1 8 Try.underlying67 hi hz0 hz1 hz2 rfl (by decide) wo.heap.size rfl ?a1q7 _ t (intCells (L.take t)) rfl ?a2q7 (int_one _) ?a3q7 ?a4q7 ?a5q7 ?_; rotate_right 1; intro p1 c1 w1 ho1 hg1; have HO1 := Lib.hid ho1; have HG1 := Lib.hid hg1; clear ho1 hg1)
                    | (at_builtin; refine wpList_append_own _ rfl _ _ 67 rfl wo.heap.size 3 i0 (.int .i64 0) 1 8 Try.underlying67 hi hz0 hz1 hz2 rfl (by decide) (.slice p1 t c1) t (intCells (L.take t)) rfl ?b1q7 ⟨w1.heap.size, 0, none⟩ 1 1 [.int .i64 (n : Int)] rfl rfl ?b2q7 ?b3q7 ?b4q7 ?b5q7 ?b6q7 ?_; rotate_right 1; intro v2 w2 ho2 hg2 hn2; obtain ⟨p2, c2, rfl⟩ := owns_shape ho2; have HO2 := Lib.hid ho2; have HG2 := Lib.hid hg2; clear ho2 hg2 hn2)
                    | (at_builtin; refine wpList_append_reads rfl _ _ 67 rfl wo.heap.size 3 i0 (.int .i64 0) 1 8 Try.underlying67 hi hz0 hz1 hz2 rfl (by decide) (.slice p2 (t + 1) c2) (t + 1) (intCells (L.take t) ++ [.int .i64 (n : Int)]) rfl ?e1q7 _ (L.length - t) (intCells (L.drop t)) rfl ?e2q7 (int_one _) ?e4q7 ?e5q7 ?e6q7 ?_; rotate_right 1; intro p3 c3 w3 ho3 hg3; have HO3 := Lib.hid ho3; have HG3 := Lib.hid hg3; clear ho3 hg3))
                  try case a1q7 => exact owns_empty (heap_alloc_new _ _) (Nat.le_refl _)
                  try case a2q7 => exact HP1.out _ (nb_alloc (nb_refl _) _)
                  try case a3q7 => unfold maxLen; omega
                  try case a4q7 => omega
                  try case a5q7 => simp
                  try case b1q7 => exact owns_below HO1.out (below1 _ _)
                  try case b2q7 =>
                    intro j u hu
                    rw [add_lit, Nat.zero_add, cell_of_row _ _ _ _ 3 _ (heap_alloc_new _ _)]
                    simpa using hu
                  try case b3q7 => first | rfl | (intro u hu; rw [List.mem_singleton] at hu; subst hu; rfl) | simp [Value.oneCell']
                  try case b4q7 => unfold maxLen; omega
                  try case b5q7 => omega
                  try case b6q7 => have := HG1.out.size; simp at *; omega
                  try case e1q7 => exact HO2.out
                  try case e2q7 => exact HP2.out _ (below_grown (nb_alloc (Below.grown (nb_alloc (nb_refl wo) _) HG1.out (by simp) (fun j hj => by have := Option.some.inj hj; omega)) _) (owns_below HO1.out (below1 _ _)) HG2.out)
                  try case e4q7 => unfold maxLen; omega
                  try case e5q7 => omega
                  try case e6q7 => have := HG1.out.size; have := HG2.out.size; simp at *; omega
                  case roundEnd =>
                    have N3 : Below wo.heap.size wo w3 := below_grown (below_grown (nb_alloc (Below.grown (nb_alloc (nb_refl wo) _) HG1.out (by simp) (fun j hj => by have := Option.some.inj hj; omega)) _) (owns_below HO1.out (below1 _ _)) HG2.out) HO2.out HG3.out
                    refine ⟨⟨k + 1, L.take t ++ n :: L.drop t, by omega, by go_num, ?_, ⟨strict_put (by rw [List.take_append_drop]; exact hL.out.1) HA2.out HST.out, fun m => ?_⟩, ?_, below_then hbl.out N3⟩, by simp [intOf]; omega⟩
                    · show _ ≤ _
                      rw [List.length_append, List.length_cons, List.length_take, List.length_drop]
                      have := hLk.out
                      omega
                    · rw [hasN_snoc hlt, HN.out, ← hL.out.2 m]
                      have e : m ∈ L.take t ++ n :: L.drop t ↔ m ∈ L ∨ m = n := by
                        have h1 : m ∈ L ↔ m ∈ L.take t ∨ m ∈ L.drop t := by rw [← List.mem_append, List.take_append_drop]
                        rw [List.mem_append, List.mem_cons, h1]
                        constructor
                        · rintro (h | h | h)
                          · exact .inl (.inl h)
                          · exact .inr h
                          · exact .inl (.inr h)
                        · rintro ((h | h) | h)
                          · exact .inl h
                          · exact .inr (.inr h)
                          · exact .inr (.inl h)
                      rw [e]
                      constructor
                      · rintro (h | h)
                        · exact .inl h
                        · exact .inr (by rw [h])
                      · rintro (h | h)
                        · exact .inl h
                        · exact .inr (Option.some.inj h).symm
                    · have e1 : (L.take t ++ n :: L.drop t).length = t + 1 + (L.length - t) := by rw [List.length_append, List.length_cons, List.length_take, List.length_drop]; omega
                      have e2 : intCells (L.take t ++ n :: L.drop t) = intCells (L.take t) ++ [.int .i64 (n : Int)] ++ intCells (L.drop t) := by simp [intCells]
                      refine ⟨?_, ⟨fun h => ?_, fun h => ?_⟩⟩
                      · rw [e1, e2]
                        have h3 := owns_mono HO3.out hbl.out.size
                        first
                          | exact h3
                          | (have hz : L.length - t = 0 := by have hte := HTE.out; omega
                             rw [hz] at h3 ⊢
                             exact h3)
                      · simp only [Value.slice.injEq] at h; omega
                      · have := congrArg List.length h; rw [e1] at this; simp at this
    · obtain rfl : k = l.length := by omega
      have hfin : ∀ n, n ∈ L ↔ hasN p l n := fun n => by
        have h0 := hL.out.2 n
        rwa [List.take_length] at h0
      have HFIN := Lib.hid hfin
      clear hfin
      go_wp2_with fail
      go_ret
      exact ⟨_, L, rfl, ⟨owns_mono hown.out.1 (by omega), hown.out.2⟩, hL.out.1, HFIN.out, HBW.out⟩
end Go.Proofs.Ytkecjopojnllnaa
namespace Go.Proofs.Ytkecjopojnllnaa
open Go.RowKit Go.Deep Go.Joins

/-- What is left of a row that rises: each number once, its first one. -/
structure Left (v : Option Int) (l d : List Sg) : Prop where
  strict : d.Pairwise (fun s t => s.num < t.num)
  more : ∀ s ∈ d, ∀ x, v = some x → x < s.num
  first : ∀ s ∈ d, l.find? (fun t => t.num == s.num) = some s
  all : ∀ s ∈ l, v = some s.num ∨ ∃ t ∈ d, t.num = s.num

theorem left_cons {x : Sg} {r d : List Sg} {v : Option Int} (hR : Rises (x :: r)) (h : Left (some x.num) r d) (hv : ∀ y, v = some y → y < x.num) : Left v (x :: r) (x :: d) where
  strict := List.pairwise_cons.2 ⟨fun t ht => h.more t ht _ rfl, h.strict⟩
  more := by
    intro s hs y hy
    rcases List.mem_cons.1 hs with rfl | hs
    · exact hv y hy
    · have := h.more s hs _ rfl
      have := hv y hy
      omega
  first := by
    intro s hs
    rcases List.mem_cons.1 hs with rfl | hs
    · simp
    · have h1 := h.more s hs _ rfl
      rw [List.find?_cons_of_neg (by simp; omega)]
      exact h.first s hs
  all := by
    intro s hs
    rcases List.mem_cons.1 hs with rfl | hs
    · exact .inr ⟨s, by simp, rfl⟩
    · rcases h.all s hs with e | ⟨t, ht, e⟩
      · exact .inr ⟨x, by simp, Option.some.inj e⟩
      · exact .inr ⟨t, List.mem_cons_of_mem _ ht, e⟩
theorem left_skip {x : Sg} {r d : List Sg} (h : Left (some x.num) r d) : Left (some x.num) (x :: r) d where
  strict := h.strict
  more := h.more
  first := by
    intro s hs
    have h1 := h.more s hs _ rfl
    rw [List.find?_cons_of_neg (by simp; omega)]
    exact h.first s hs
  all := by
    intro s hs
    rcases List.mem_cons.1 hs with rfl | hs
    · exact .inl rfl
    · exact h.all s hs
theorem left_from (v : Int) (l : List Sg) (hR : Rises l) (hv : ∀ s ∈ l, v ≤ s.num) : Left (some v) l (dedupF v l) := by
  induction l generalizing v with
  | nil => exact ⟨List.Pairwise.nil, (fun s hs => by cases hs), (fun s hs => by cases hs), (fun s hs => by cases hs)⟩
  | cons x r ih =>
    have hR' := List.pairwise_cons.1 hR
    have h := ih x.num hR'.2 hR'.1
    by_cases e : x.num = v
    · have e2 : dedupF v (x :: r) = dedupF x.num r := by show (if x.num = v then _ else _) = _; rw [if_pos e, e]
      rw [e2, ← e]
      exact left_skip h
    · have e2 : dedupF v (x :: r) = x :: dedupF x.num r := by show (if x.num = v then _ else _) = _; rw [if_neg e]
      rw [e2]
      refine left_cons hR h ?_
      rintro y hy
      have := hv x (by simp)
      have := Option.some.inj hy
      omega
theorem left_dedup (l : List Sg) (hR : Rises l) : Left none l (dedup l) := by
  cases l with
  | nil => exact ⟨List.Pairwise.nil, (fun s hs => by cases hs), (fun s hs => by cases hs), (fun s hs => by cases hs)⟩
  | cons x r =>
    have hR' := List.pairwise_cons.1 hR
    exact left_cons hR (left_from x.num r hR'.2 hR'.1) (by rintro y hy; cases hy)

/-- The first segment of a number is the first file whose name says it. -/
theorem find_keeps {X Y : List Sg} (h : Keeps X Y) (k : Int) : Y.find? (fun t => t.num == k) = X.find? (fun t => t.num == k) := by
  rw [← List.head?_filter, ← List.head?_filter, h.2]
theorem find_sgs (p : ByteArray) (l : List Rw) (n : Nat) : (sgs p l).find? (fun t => t.num == (n : Int)) = (l.find? (fun r => numB p r.name == some n)).map (sgOf n) := by
  induction l with
  | nil => rfl
  | cons r l ih =>
    unfold sgs at ih ⊢
    cases hn : numB p r.name with
    | none =>
      rw [List.filterMap_cons_none (by rw [hn]; rfl), ih, List.find?_cons_of_neg (by rw [hn]; simp)]
    | some m =>
      rw [List.filterMap_cons_some (b := sgOf m r) (by rw [hn]; rfl)]
      by_cases e : m = n
      · subst e
        rw [List.find?_cons_of_pos (by simp [sgOf]), List.find?_cons_of_pos (by rw [hn]; simp)]
        rfl
      · rw [List.find?_cons_of_neg (by simp [sgOf]; omega), ih, List.find?_cons_of_neg (by rw [hn]; simpa using e)]
theorem mem_sgs {p : ByteArray} {l : List Rw} {s : Sg} : s ∈ sgs p l ↔ ∃ r ∈ l, ∃ n, numB p r.name = some n ∧ s = sgOf n r := by
  unfold sgs
  rw [List.mem_filterMap]
  constructor
  · rintro ⟨r, hr, h⟩
    cases hn : numB p r.name with
    | none => rw [hn] at h; cases h
    | some n => rw [hn] at h; exact ⟨r, hr, n, hn, (Option.some.inj h).symm⟩
  · rintro ⟨r, hr, n, hn, rfl⟩
    exact ⟨r, hr, by rw [hn]; rfl⟩

/-- The program's segments, said by the reference's numbers. -/
def SegsOf (p : ByteArray) (l : List Rw) (L : List Nat) (D : List Sg) : Prop := D.length = L.length ∧ ∀ j (h : j < L.length), ∃ r, l.find? (fun r => numB p r.name == some L[j]) = some r ∧ D[j]? = some (sgOf L[j] r)
theorem segs_same {p : ByteArray} {l : List Rw} {L : List Nat} {D Z : List Sg} (hD : D = dedup Z) (hR : Rises Z) (hK : Keeps (sgs p l) Z) (hL : StrictN L) (hLm : ∀ n, n ∈ L ↔ hasN p l n) : SegsOf p l L D := by
  have h := left_dedup Z hR
  rw [← hD] at h
  have hmem : ∀ s ∈ D, ∃ r ∈ l, ∃ n, numB p r.name = some n ∧ s = sgOf n r := by
    intro s hs
    exact mem_sgs.1 (hK.mem (List.mem_of_find?_eq_some (h.first s hs)))
  have hnum : ∀ s ∈ D, ((s.num.toNat : Nat) : Int) = s.num := by
    intro s hs
    obtain ⟨r, _, n, _, rfl⟩ := hmem s hs
    show ((((n : Int)).toNat : Nat) : Int) = (n : Int)
    omega
  have hM : StrictN (D.map fun s => s.num.toNat) := by
    unfold StrictN
    rw [List.pairwise_map]
    refine List.Pairwise.imp_of_mem ?_ h.strict
    intro a b ha hb hab
    have := hnum a ha
    have := hnum b hb
    omega
  have hMm : ∀ n, n ∈ D.map (fun s => s.num.toNat) ↔ n ∈ L := by
    intro n
    rw [hLm, List.mem_map]
    constructor
    · rintro ⟨s, hs, rfl⟩
      obtain ⟨r, hr, n, hn, rfl⟩ := hmem s hs
      exact ⟨r, hr, hn⟩
    · rintro ⟨r, hr, hn⟩
      have h1 : sgOf n r ∈ sgs p l := mem_sgs.2 ⟨r, hr, n, hn, rfl⟩
      have h2 : (sgs p l).find? (fun t => t.num == (n : Int)) ≠ none := by
        rw [Ne, List.find?_eq_none]
        intro h3
        exact h3 _ h1 (by simp [sgOf])
      rw [← find_keeps hK] at h2
      obtain ⟨s, hs⟩ := Option.ne_none_iff_exists'.1 h2
      have e1 : s.num = (n : Int) := by simpa using List.find?_some hs
      rcases h.all s (List.mem_of_find?_eq_some hs) with e | ⟨t, ht, e⟩
      · cases e
      · exact ⟨t, ht, by omega⟩
  have he : (D.map fun s => s.num.toNat) = L := strict_unique hM hL hMm
  have hlen : D.length = L.length := by rw [← he, List.length_map]
  refine ⟨hlen, fun j hj => ?_⟩
  have hj2 : j < D.length := by omega
  have hs : D[j] ∈ D := List.getElem_mem hj2
  have e1 : L[j] = D[j].num.toNat := by
    subst he
    rw [List.getElem_map]
  have e2 : ((L[j] : Nat) : Int) = D[j].num := by rw [e1]; exact hnum _ hs
  have h1 := h.first _ hs
  rw [← e2, find_keeps hK, find_sgs] at h1
  cases hf : l.find? (fun r => numB p r.name == some L[j]) with
  | none => rw [hf] at h1; cases h1
  | some r =>
    rw [hf] at h1
    exact ⟨r, rfl, by rw [List.getElem?_eq_getElem hj2, ← Option.some.inj h1]⟩
end Go.Proofs.Ytkecjopojnllnaa
namespace Go.Proofs.Ytkecjopojnllnaa
open Go.RowKit Go.Deep Go.Joins

theorem nameOf_list (p : ByteArray) (n : Nat) : (nameOf p n).data.toList = p.data.toList ++ 46 :: dgs n 0 := by
  unfold nameOf
  simp
theorem dg0 (n j : Nat) : (dg n 0 j).toNat = dgt n j := by
  have := dgt_lt n j
  unfold dg
  rw [if_pos (Nat.zero_le _), UInt8.toNat_ofNat']
  omega
theorem dig_dg (n j : Nat) : digB ((dg n 0 j).toNat : Int) = true := by
  have := dgt_lt n j
  rw [dig_yes, dg0]
  omega
theorem val6 (a b c d e f : UInt8) : valL [a, b, c, d, e, f] = (((((a.toNat - 48) * 10 + (b.toNat - 48)) * 10 + (c.toNat - 48)) * 10 + (d.toNat - 48)) * 10 + (e.toNat - 48)) * 10 + (f.toNat - 48) := by
  unfold valL
  simp
theorem val_dgs (n : Nat) (h : n ≤ 999999) : valL (dgs n 0) = n := by
  unfold dgs
  rw [val6, dg0, dg0, dg0, dg0, dg0, dg0]
  unfold dgt
  show (((((48 + n / 100000 % 10 - 48) * 10 + (48 + n / 10000 % 10 - 48)) * 10 + (48 + n / 1000 % 10 - 48)) * 10 + (48 + n / 100 % 10 - 48)) * 10 + (48 + n / 10 % 10 - 48)) * 10 + (48 + n / 1 % 10 - 48) = n
  omega
theorem dgs_val (T : List UInt8) (h6 : T.length = 6) (hT : T.all (fun c => digB c.toNat) = true) : dgs (valL T) 0 = T ∧ valL T ≤ 999999 := by
  match T, h6 with
  | [a, b, c, d, e, f], _ =>
    simp only [List.all_cons, List.all_nil, Bool.and_true, Bool.and_eq_true, dig_yes] at hT
    obtain ⟨ha, hb, hc, hd, he, hf⟩ := hT
    have hone : ∀ (j : Nat) (x : UInt8), dgt (valL [a, b, c, d, e, f]) j = x.toNat → dg (valL [a, b, c, d, e, f]) 0 j = x := by
      intro j x h
      rw [← UInt8.toNat_inj, dg0, h]
    rw [val6] at hone ⊢
    constructor
    · unfold dgs
      rw [hone 0 a ?_, hone 1 b ?_, hone 2 c ?_, hone 3 d ?_, hone 4 e ?_, hone 5 f ?_]
      all_goals unfold dgt
      · show 48 + _ / 1 % 10 = _
        omega
      · show 48 + _ / 10 % 10 = _
        omega
      · show 48 + _ / 100 % 10 = _
        omega
      · show 48 + _ / 1000 % 10 = _
        omega
      · show 48 + _ / 10000 % 10 = _
        omega
      · show 48 + _ / 100000 % 10 = _
        omega
    · omega
theorem numB_name {p nm : ByteArray} {n : Nat} : numB p nm = some n ↔ nm = nameOf p n ∧ n ≤ 999999 := by
  have hl := len_eq nm
  have hlp := len_eq p
  rw [numB_iff]
  constructor
  · rintro ⟨h, rfl⟩
    have h6 : (nm.data.toList.drop (p.size + 1)).length = 6 := by rw [List.length_drop, hl, h.size]; omega
    obtain ⟨h1, h2⟩ := dgs_val _ h6 h.digs
    refine ⟨ba_inj ?_, h2⟩
    rw [nameOf_list, h1, ← h.pref]
    have e : nm.data.toList[p.size]? = some (nm.data.toList[p.size]'(by rw [hl, h.size]; omega)) := List.getElem?_eq_getElem _
    have e2 : nm.data.toList[p.size]'(by rw [hl, h.size]; omega) = 46 := by
      have := h.point
      rw [e] at this
      exact Option.some.inj this
    rw [← e2, ← List.drop_eq_getElem_cons, List.take_append_drop]
  · rintro ⟨rfl, hn⟩
    have hL := nameOf_list p n
    have hd : (nameOf p n).data.toList.drop (p.size + 1) = dgs n 0 := by
      rw [hL, ← hlp, ← List.drop_drop, List.drop_left]
      rfl
    refine ⟨⟨?_, ?_, ?_, ?_⟩, ?_⟩
    · rw [← len_eq, hL, List.length_append, hlp]
      rfl
    · rw [hL, ← hlp, List.take_left]
    · rw [hL, ← hlp, List.getElem?_append_right (Nat.le_refl _), Nat.sub_self]
      rfl
    · rw [hd]
      unfold dgs
      simp only [List.all_cons, List.all_nil, dig_dg, Bool.and_true]
    · rw [hd, val_dgs n hn]
theorem same_num {p : ByteArray} {n : Nat} (hn : n ≤ 999999) (r : Rw) : (numB p r.name == some n) = sameName (nameOf p n) r := by
  rw [Bool.eq_iff_iff, beq_iff_eq, numB_name]
  simp only [sameName, sameN, hn, and_true, beq_iff_eq, ByteArray.toList_eq]
  exact ⟨fun h => by rw [h], fun h => ba_inj h⟩
/-- The first file of a number is the one that its name finds. -/
theorem find_name {p : ByteArray} {l : List Rw} {n : Nat} {r : Rw} (h : l.find? (fun r => numB p r.name == some n) = some r) : ∃ (k : Nat) (hk : k < l.length), idx (sameName (nameOf p n)) l = k ∧ l[k] = r ∧ r.name = nameOf p n ∧ n ≤ 999999 := by
  have h0 : numB p r.name = some n := by simpa using List.find?_some h
  obtain ⟨h1, hn⟩ := numB_name.1 h0
  obtain ⟨h2, k, hk, rfl, h3⟩ := List.find?_eq_some_iff_getElem.1 h
  refine ⟨k, hk, idx_some hk ?_ ?_, rfl, h1, hn⟩
  · intro j hj hjk
    have := h3 j hjk
    rw [same_num hn] at this
    simpa using this
  · rw [← same_num hn]
    exact h2
theorem hasN_le {p : ByteArray} {l : List Rw} {n : Nat} (h : hasN p l n) : n ≤ 999999 := by
  obtain ⟨r, _, h⟩ := h
  exact (numB_name.1 h).2
theorem nameOf_inj {p : ByteArray} {n m : Nat} (hn : n ≤ 999999) (hm : m ≤ 999999) (h : nameOf p n = nameOf p m) : n = m := by
  have h1 := (numB_name (p := p) (nm := nameOf p n) (n := n)).2 ⟨rfl, hn⟩
  have h2 := (numB_name (p := p) (nm := nameOf p m) (n := m)).2 ⟨rfl, hm⟩
  rw [h, h2] at h1
  exact (Option.some.inj h1).symm
end Go.Proofs.Ytkecjopojnllnaa
