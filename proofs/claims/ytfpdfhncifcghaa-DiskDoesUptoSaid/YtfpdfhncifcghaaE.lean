/- What a fate leaves of the open writes. -/
import Derived.Test.YtfpdfhncifcghaaD
namespace Go.Proofs.Ytfpdfhncifcghaa
open Go.RowKit

theorem layAll_nil (s : ByteArray) : layB s [] = s := rfl
theorem sizeUp_le (n : Nat) (l : List Wr) (hs : n ≤ 140737489403904) (hb : ∀ x ∈ l, x.bytes.size ≤ 140737488355328) : sizeUp n l ≤ 140737489403904 := by
  induction l generalizing n with
  | nil => exact hs
  | cons x l ih =>
    refine ih _ ?_ fun y hy => hb y (List.mem_cons_of_mem _ hy)
    have h1 := hb x (by simp)
    unfold grow
    split
    · rename_i hw
      have := wk_pos hw
      split <;> omega
    · exact hs

theorem lay_any (s : ByteArray) (l : List Wr) (v : Value) (w : World) (hr : Reads w v 2 l.length (wrCells l)) (hm : l.length ≤ 9223372036854775807)
    (hs : s.size ≤ 140737489403904) (hb : ∀ x ∈ l, x.bytes.size ≤ 140737488355328) :
    Calls Try.prog 26 #[.string s, v] w fun e w' => e = .returned (.string (layB s l)) ∧ Below w.heap.size w w' := by
  cases l with
  | nil => exact lay_nil s v w hr
  | cons x l => exact lay_some s (x :: l) v w hr (by simp) hm hs hb

theorem all_any (n s : ByteArray) (l : List Wr) (v : Value) (w : World) (hr : Reads w v 2 l.length (wrCells l)) (hm : l.length ≤ 9223372036854775807)
    (hs : s.size ≤ 140737489403904) (hb : ∀ x ∈ l, x.bytes.size ≤ 140737488355328) :
    Calls Try.prog 29 #[.agg #[.string n, .string s, v]] w fun e w' => e = .returned (.string (layB s l)) ∧ Below w.heap.size w w' := by
  go_enter Try.func29, Try.ntmps29
  go_wp2_with fail
  refine (lay_any s l v _ (hr.below (below1 w _)) hm hs hb).mono ?_
  rintro e w1 ⟨rfl, hb⟩
  go_wp2_with fail
  go_ret
  exact ⟨rfl, below_then (below1 w _) hb⟩

def boolCells (l : List Bool) : List Value := l.map .bool
def cutTo (nb : Int) (s : ByteArray) : ByteArray := s.extract 0 (if (s.size : Int) < (if 0 < nb then nb else 0) then s.size else (if 0 < nb then nb else 0).toNat)
def surv (whole : List Bool) (torn nb : Int) : Nat → List Wr → List Wr
  | _, [] => []
  | i, x :: r => if (i : Int) = torn then [⟨x.pos, cutTo nb x.bytes⟩] else if whole.getD i false then x :: surv whole torn nb (i + 1) r else surv whole torn nb (i + 1) r

theorem surv_nil (whole : List Bool) (torn nb : Int) (i : Nat) : surv whole torn nb i [] = [] := rfl
theorem surv_cons (whole : List Bool) (torn nb : Int) (i : Nat) (x : Wr) (r : List Wr) : surv whole torn nb i (x :: r) =
    if (i : Int) = torn then [⟨x.pos, cutTo nb x.bytes⟩] else if whole.getD i false = true then x :: surv whole torn nb (i + 1) r else surv whole torn nb (i + 1) r := rfl
theorem cut_ops (nb : Int) (s : ByteArray) : ∃ (x : Int) (m : Nat), m ≤ s.size ∧ cutTo nb s = s.extract 0 m ∧ (∀ u : World, (Builtin.max_ #[3, 3] 3 #[.int .i64 nb, .int .i64 0]).run Try.prog u = .ok (.int .i64 x) u) ∧
    (∀ u : World, (Builtin.min_ #[3, 3] 3 #[.int .i64 x, .int .i64 (s.size : Int)]).run Try.prog u = .ok (.int .i64 (m : Int)) u) := by
  generalize hx : (if 0 < nb then nb else 0) = x
  have hx0 : 0 ≤ x := by rw [← hx]; split <;> omega
  refine ⟨x, if (s.size : Int) < x then s.size else x.toNat, by split <;> omega, by unfold cutTo; rw [hx], fun u => ?_, fun u => ?_⟩
  · rw [run_max_int2]
    by_cases h : 0 < nb
    · rw [if_pos h] at hx; subst hx; rw [if_neg (by omega)]
    · rw [if_neg h] at hx; subst hx; congr 2; split <;> omega
  · rw [run_min_int2]
    congr 2
    split <;> omega
theorem two_cells (w : World) (b : Nat) (x y : Value) (h1 : w.cell? ⟨b, 0, none⟩ = some x) (h2 : w.cell? ⟨b, 1, none⟩ = some y) :
    ∀ (j : Nat) (u : Value), [x, y][j]? = some u → w.cell? ((⟨b, 0, none⟩ : Addr).add j) = some u := by
  intro j u hu
  rw [add_lit]
  rcases j with _ | _ | j
  · simpa [h1] using hu
  · simpa [h2] using hu
  · simp at hu

theorem grow_below {B : Nat} {W0 wr w5 : World} {u : Value} {e : TypeId} {size n : Nat} {xs : List Value} (hb : Below B W0 wr) (hB : B ≤ wr.heap.size) (a b : Obj) (ho : wr.ownsRow B e size u n xs)
    (hg : ((wr.alloc a).alloc b).grownBy w5 u.ownBlock) : Below B W0 w5 :=
  ((hb.alloc hB a).alloc (by simp; omega) b).grown hg (by simp; omega) fun k hk => (ho.lt k hk).1
theorem wrCells_snoc (l : List Wr) (x : Wr) : wrCells (l ++ [x]) = wrCells l ++ [.int .i64 x.pos, .string x.bytes] := by simp [wrCells]
theorem owns_snoc {w : World} {B : Nat} {v : Value} {acc : List Wr} {x : Wr} (h : w.ownsRow B 37 2 v (acc.length + 1) (wrCells acc ++ [.int .i64 x.pos, .string x.bytes])) :
    w.ownsRow B 37 2 v (acc ++ [x]).length (wrCells (acc ++ [x])) := by
  rw [wrCells_snoc, List.length_append]; exact h
theorem owns_mono {w : World} {B B' : Nat} {e : TypeId} {size n : Nat} {v : Value} {xs : List Value} (h : w.ownsRow B e size v n xs) (hB : B' ≤ B) : w.ownsRow B' e size v n xs := by
  refine ⟨h.1, ?_⟩
  rcases h.2 with h | ⟨g, cap, cur, h1, h2, r⟩
  · exact .inl h
  · exact .inr ⟨g, cap, cur, h1, Nat.le_trans hB h2, r⟩

set_option maxHeartbeats 400000 in
theorem survivors_any (l : List Wr) (v : Value) (whole : List Bool) (wv : Value) (torn nb : Int) (w : World) (hr : Reads w v 2 l.length (wrCells l)) (hm : l.length ≤ 9223372036854775807)
    (hw : Reads w wv 1 whole.length (boolCells whole)) (hreach : l.length * 24 ≤ 140737488355328) :
    Calls Try.prog 25 #[v, .agg #[wv, .int .i64 torn, .int .i64 nb]] w fun e w' => ∃ v' n, e = .returned v' ∧ w'.ownsRow w.heap.size 37 2 v' n (wrCells (surv whole torn nb 0 l)) ∧ Below w.heap.size w w' := by
  obtain ⟨p, cap, rfl⟩ := hr.is
  obtain ⟨p2, cap2, rfl⟩ := hw.is
  obtain ⟨i0, hi, hz0, hz1, hz2⟩ := info_parts (show (Try.prog.info? 37).map (fun i => (i.zero, i.size, i.bytes)) = some (some (.agg #[.int .i64 0, .string .empty]), 2, 24) by kernel_rfl)
  go_enter Try.func25, Try.ntmps25
  go_wp2
  go_loopw [5, 10] (fun u i wr => ∃ (k : Nat) (acc : List Wr), k ≤ l.length ∧ i = .int .i64 k ∧ acc.length ≤ k ∧ Hid (acc ++ surv whole torn nb k (l.drop k) = surv whole torn nb 0 l) ∧ wr.ownsRow (w.heap.size + 1) 37 2 u acc.length (wrCells acc) ∧
    Below (w.heap.size + 1) (w.alloc (.cells #[.slice p2 whole.length cap2, .int .i64 torn, .int .i64 nb] 50)) wr) (fun _ i _ => l.length - (intOf i).toNat)
  case atStart => exact ⟨0, [], Nat.zero_le _, rfl, Nat.le_refl _, rfl, World.ownsRow_nil _ _ _ _, Below.refl _ _⟩
  case round =>
    obtain ⟨k, acc, hk, rfl, hak, hacc, hown, hbl⟩ := hrel
    have hbw : Below w.heap.size w wr := (below1 w _).trans (hbl.mono (by omega))
    have hlb := hbl.size
    rw [World.size_alloc] at hlb
    have hlt2 : w.heap.size < wr.heap.size := by omega
    by_cases hlt : k < l.length
    · obtain ⟨b1, off1, cap1, hv, _, _, hb1, c0, c1⟩ := (hr.below hbw).write k hlt
      obtain ⟨rfl, rfl⟩ : p = some ⟨b1, off1, none⟩ ∧ cap = cap1 := by simpa using hv
      have f0 := hbl.cell (p := ⟨w.heap.size, 0, none⟩) (by simp)
      have f1 := hbl.cell (p := ⟨w.heap.size, 1, none⟩) (by simp)
      have f2 := hbl.cell (p := ⟨w.heap.size, 2, none⟩) (by simp)
      rw [World.cell?_alloc_new] at f0 f1 f2
      simp only [List.getElem?_toArray, List.getElem?_cons_zero, List.getElem?_cons_succ] at f0 f1 f2
      have HB := Lib.hid hbl
      have HBW := Lib.hid hbw
      clear hbl hbw hr hv
      have hsu : acc ++ surv whole torn nb k (l.drop k) = surv whole torn nb 0 l := hacc.out
      rw [List.drop_eq_getElem_cons hlt, surv_cons] at hsu
      have HSU := Lib.hid hsu
      clear hsu hacc
      have Hown := Lib.hid hown
      clear hown
      have HOW : ∀ a b : Obj, ((wr.alloc a).alloc b).ownsRow (w.heap.size + 1) 37 2 u5 acc.length (wrCells acc) := fun a b => (Hown.out.alloc a).alloc b
      have HOWN := Lib.hid HOW
      clear HOW
      by_cases ht : (k : Int) = torn
      · have hb : ((k : Int) == torn) = true := by simpa using ht
        have HT := Lib.hid ht
        clear ht
        obtain ⟨x, m, hm1, hm2, hmax, hmin⟩ := cut_ops nb l[k].bytes
        have HM := Lib.hid hm2
        clear hm2
        go_wp2_with (at_builtin; refine wpList_append_own _ rfl _ _ 33 rfl (w.heap.size + 1) 37 i0 (.agg #[.int .i64 0, .string .empty]) 2 24 Try.underlying33 hi hz0 hz1 hz2 rfl (by decide) _ acc.length (wrCells acc) rfl ?hown ⟨wr.heap.size + 1, 0, none⟩ 1 1 [.int .i64 l[k].pos, .string (l[k].bytes.extract 0 m)] rfl rfl ?c1 ?c2 ?c3 ?c4 ?c5 ?_; rotate_right 1; intro v' w5 hown5 hg5 _; have HO5 := Lib.hid hown5; clear hown5)
        case hown => exact HOWN.out _ _
        case c1 => exact two_cells _ _ _ _ (by simp) (by simp)
        case c2 => exact fun u hu => by simp at hu; rcases hu with rfl | rfl <;> rfl
        case c3 => unfold maxLen; omega
        case c4 => omega
        case c5 => simp; omega
        go_ret
        have hsu := HSU.out
        rw [if_pos HT.out] at hsu
        refine ⟨v', acc.length + 1, rfl, ?_, grow_below HBW.out (by omega) _ _ (owns_mono Hown.out (by omega)) hg5⟩
        rw [← hsu]
        have h5 := HO5.out
        rw [← HM.out] at h5
        have h6 := owns_mono (owns_snoc (x := ⟨l[k].pos, cutTo nb l[k].bytes⟩) h5) (Nat.le_succ _)
        rw [List.length_append] at h6
        exact h6
      · have hb : ((k : Int) == torn) = false := by simpa using ht
        have HT := Lib.hid ht
        clear ht
        by_cases hkw : k < whole.length
        · obtain ⟨b2, off2, cap3, hv, _, _, hb2, hcw⟩ := (hw.below HBW.out).at (by omega)
          obtain ⟨rfl, rfl⟩ : p2 = some ⟨b2, off2, none⟩ ∧ cap2 = cap3 := by simpa using hv
          have cw := hcw k (.bool whole[k]) (by simp [boolCells, hkw])
          clear hcw hv hw
          rcases Bool.eq_false_or_eq_true whole[k] with hwk | hwk
          · rw [hwk] at cw
            go_wp2_with (at_builtin; refine wpList_append_own _ rfl _ _ 33 rfl (w.heap.size + 1) 37 i0 (.agg #[.int .i64 0, .string .empty]) 2 24 Try.underlying33 hi hz0 hz1 hz2 rfl (by decide) _ acc.length (wrCells acc) rfl ?hown2 ⟨wr.heap.size + 1, 0, none⟩ 1 1 [.int .i64 l[k].pos, .string l[k].bytes] rfl rfl ?d1 ?d2 ?d3 ?d4 ?d5 ?_; rotate_right 1; intro v' w5 hown5 hg5 _; have HO5 := Lib.hid hown5; clear hown5)
            case hown2 => exact HOWN.out _ _
            case d1 => exact two_cells _ _ _ _ (by simp) (by simp)
            case d2 => exact fun u hu => by simp at hu; rcases hu with rfl | rfl <;> rfl
            case d3 => unfold maxLen; omega
            case d4 => omega
            case d5 => simp; omega
            go_roundw
            case rel =>
              refine ⟨k + 1, acc ++ [l[k]], by omega, by go_num, by simp; omega, ?_, owns_snoc HO5.out, grow_below HB.out (by omega) _ _ Hown.out hg5⟩
              have hsu := HSU.out
              rw [if_neg HT.out, if_pos (show whole.getD k false = true by simp [hkw, hwk])] at hsu
              show _ = _
              rw [← hsu, List.append_assoc]
              rfl
            case measure => simp [intOf]; omega
          · rw [hwk] at cw
            go_wp2_with fail
            go_roundw
            case rel =>
              refine ⟨k + 1, acc, by omega, by go_num, by omega, ?_, Hown.out.alloc _, HB.out.alloc (by omega) _⟩
              have hsu := HSU.out
              rw [if_neg HT.out, if_neg (show ¬ whole.getD k false = true by simp [hkw, hwk])] at hsu
              exact hsu
            case measure => simp [intOf]; omega
        · go_wp2_with fail
          go_roundw
          case rel =>
            refine ⟨k + 1, acc, by omega, by go_num, by omega, ?_, Hown.out.alloc _, HB.out.alloc (by omega) _⟩
            have hsu := HSU.out
            rw [if_neg HT.out, if_neg (show ¬ whole.getD k false = true by simp [hkw])] at hsu
            exact hsu
          case measure => simp [intOf]; omega
    · obtain rfl : k = l.length := by omega
      have hsu := hacc.out
      rw [List.drop_length, surv_nil, List.append_nil] at hsu
      have HSU := Lib.hid hsu
      have Hown := Lib.hid hown
      clear hsu hown hacc
      go_wp2_with fail
      go_ret
      exact ⟨u5, acc.length, rfl, by rw [← HSU.out]; exact owns_mono Hown.out (by omega), hbw⟩
end Go.Proofs.Ytfpdfhncifcghaa
