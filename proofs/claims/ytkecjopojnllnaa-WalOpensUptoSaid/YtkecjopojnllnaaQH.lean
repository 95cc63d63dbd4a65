/- The segments of a prefix, as the reference finds them. -/
import Derived.Test.YtkecjopojnllnaaQG
namespace Go.Proofs.Ytkecjopojnllnaa
open Go.RowKit Go.Deep Go.Joins

def intCells (L : List Nat) : List Value := L.map fun (n : Nat) => Value.int .i64 (n : Int)
theorem intCells_length (L : List Nat) : (intCells L).length = L.length := by simp [intCells]
theorem intCells_append (a b : List Nat) : intCells (a ++ b) = intCells a ++ intCells b := by simp [intCells]
theorem int_one (L : List Nat) : ∀ u ∈ intCells L, u.oneCell' = true := by
  intro u hu
  obtain ⟨n, _, rfl⟩ := List.mem_map.1 hu
  rfl
/-- The row of numbers, from nothing on. -/
def OwnI (w : World) (B : Nat) (v : Value) (L : List Nat) : Prop := w.ownsRow B 3 1 v L.length (intCells L) ∧ (v = .slice none 0 0 ↔ L = [])
theorem OwnI.below {w w' : World} {B : Nat} {v : Value} {L : List Nat} (h : OwnI w B v L) (hb : Below w.heap.size w w') : OwnI w' B v L := ⟨owns_below h.1 hb, h.2⟩
theorem OwnI.is {w : World} {B : Nat} {v : Value} {L : List Nat} (h : OwnI w B v L) (hL : L ≠ []) : ∃ g cap, v = .slice (some ⟨g, 0, none⟩) L.length cap ∧ L.length ≤ cap ∧ cap ≤ maxLen ∧ g < w.heap.size ∧ B ≤ g ∧ ∀ j (hj : j < L.length), w.cell? ⟨g, j, none⟩ = some (.int .i64 (L[j] : Int)) := by
  obtain ⟨h1, h2⟩ := h
  rcases h1.2 with ⟨h3, _⟩ | ⟨g, cap, cur, rfl, hB, hg, hn, hm, _⟩
  · exact absurd (h2.1 h3) hL
  · refine ⟨g, cap, rfl, hn, hm, (Array.getElem?_eq_some_iff.1 hg).1, hB, fun j hj => ?_⟩
    rw [h1.cellAt j (by omega)]
    unfold intCells
    rw [List.getElem?_map, List.getElem?_eq_getElem hj]
    rfl
theorem OwnI.parts {w : World} {B g n cap : Nat} {L : List Nat} (h : w.ownsRow B 3 1 (.slice (some ⟨g, 0, none⟩) n cap) n (intCells L)) (hn : n = L.length) (k : Nat) (hk : k ≤ n) (hcap : n ≤ cap) (hm : cap ≤ maxLen) :
    Reads w (.slice (some ⟨g, 0, none⟩) k cap) 1 k (intCells (L.take k)) ∧ Reads w (.slice (some ⟨g, k, none⟩) (n - k) (cap - k)) 1 (n - k) (intCells (L.drop k)) := by
  have hsplit : intCells L = intCells (L.take k) ++ intCells (L.drop k) := by rw [← intCells_append, List.take_append_drop]
  have hlen : (intCells (L.take k)).length = k := by rw [intCells_length, List.length_take, Nat.min_eq_left (by omega)]
  have hcells := h.cells (g := g) rfl
  refine ⟨⟨by rw [hlen, Nat.mul_one], .inr ⟨_, cap, rfl, by omega, hm, fun j u hu => hcells j u ?_⟩⟩, ⟨by rw [intCells_length, List.length_drop, hn, Nat.mul_one], .inr ⟨_, cap - k, rfl, by omega, by omega, fun j u hu => ?_⟩⟩⟩
  · rw [hsplit, List.getElem?_append_left (List.getElem?_eq_some_iff.1 hu).1]
    exact hu
  · have h2 := hcells (k + j) u (by rw [hsplit, List.getElem?_append_right (by omega), hlen, Nat.add_sub_cancel_left]; exact hu)
    rw [add_lit] at h2 ⊢
    rw [Nat.zero_add] at h2
    exact h2
/-- Numbers that rise, each once. -/
def StrictN (L : List Nat) : Prop := L.Pairwise (· < ·)
def hasN (p : ByteArray) (l : List Rw) (n : Nat) : Prop := ∃ r ∈ l, numB p r.name = some n
theorem strict_put {A C : List Nat} {n : Nat} (h : StrictN (A ++ C)) (hA : ∀ a ∈ A, a < n) (hC : ∀ c ∈ C, n < c) : StrictN (A ++ n :: C) := by
  unfold StrictN at *
  rw [List.pairwise_append] at h ⊢
  obtain ⟨h1, h2, h3⟩ := h
  refine ⟨h1, List.pairwise_cons.2 ⟨hC, h2⟩, fun a ha b hb => ?_⟩
  rcases List.mem_cons.1 hb with rfl | hb
  · exact hA a ha
  · exact h3 a ha b hb
theorem hasN_snoc {p : ByteArray} {l : List Rw} {k : Nat} (hk : k < l.length) (n : Nat) : hasN p (l.take (k + 1)) n ↔ hasN p (l.take k) n ∨ numB p l[k].name = some n := by
  unfold hasN
  rw [List.take_succ_eq_append_getElem hk]
  constructor
  · rintro ⟨r, hr, h⟩
    rcases List.mem_append.1 hr with hr | hr
    · exact .inl ⟨r, hr, h⟩
    · rw [List.mem_singleton] at hr; subst hr; exact .inr h
  · rintro (⟨r, hr, h⟩ | h)
    · exact ⟨r, List.mem_append_left _ hr, h⟩
    · exact ⟨l[k], List.mem_append_right _ (List.mem_singleton.2 rfl), h⟩
/-- Two rows of numbers that rise and hold the same ones are one. -/
theorem strict_unique {L M : List Nat} (hL : StrictN L) (hM : StrictN M) (h : ∀ n, n ∈ L ↔ n ∈ M) : L = M := by
  induction L generalizing M with
  | nil =>
    cases M with
    | nil => rfl
    | cons m M => exact absurd ((h m).2 (by simp)) (by simp)
  | cons a L ih =>
    cases M with
    | nil => exact absurd ((h a).1 (by simp)) (by simp)
    | cons m M =>
      have hL' := List.pairwise_cons.1 hL
      have hM' := List.pairwise_cons.1 hM
      have e : a = m := by
        have h1 : a ∈ m :: M := (h a).1 (by simp)
        have h2 : m ∈ a :: L := (h m).2 (by simp)
        rcases List.mem_cons.1 h1 with h1 | h1
        · exact h1
        · rcases List.mem_cons.1 h2 with h2 | h2
          · exact h2.symm
          · have := hM'.1 a h1
            have := hL'.1 m h2
            omega
      subst e
      congr 1
      refine ih hL'.2 hM'.2 fun n => ⟨fun hn => ?_, fun hn => ?_⟩
      · rcases List.mem_cons.1 ((h n).1 (List.mem_cons_of_mem _ hn)) with e | hm
        · have := hL'.1 n hn; omega
        · exact hm
      · rcases List.mem_cons.1 ((h n).2 (List.mem_cons_of_mem _ hn)) with e | hm
        · have := hM'.1 n hn; omega
        · exact hm

set_option maxRecDepth 100000 in
set_option maxHeartbeats 2000000 in
theorem segments2_any (l : List Rw) (v : Value) (p : ByteArray) (w : World) (hr : Reads w v 3 l.length (rowCells l)) (hp : p.size ≤ 1000) (hm : l.length ≤ 1099511627776) :
    Calls Try.prog 37 #[.agg #[v], .string p] w fun e w' => ∃ (v' : Value) (L : List Nat), e = .returned v' ∧ OwnI w' w.heap.size v' L ∧ StrictN L ∧ (∀ n, n ∈ L ↔ hasN p l n) ∧ Below w.heap.size w w' := by
  obtain ⟨q, cap, rfl⟩ := hr.is
  obtain ⟨i0, hi, hz0, hz1, hz2⟩ := info_parts (show (Try.prog.info? 3).map (fun i => (i.zero, i.size, i.bytes)) = some (some (.int .i64 0), 1, 8) by kernel_rfl)
  go_enter Try.func37, Try.ntmps37
  go_wp2_with fail
  generalize hw0 : w.alloc (Obj.cells #[.slice q l.length cap] 24) = w0
  have hb0 : Below w.heap.size w w0 := hw0 ▸ below1 w _
  have hs0 : w0.heap.size = w.heap.size + 1 := by rw [← hw0]; simp
  have hd0 : VarAt w0 w.heap.size (.slice q l.length cap) := hw0 ▸ VarAt.new w _
  have HB0 := Lib.hid hb0
  have HD0 := Lib.hid hd0
  have d1 := hd0.lt
  clear hw0 hb0 hd0
  go_wp2_with fail
  go_loopw [6, 5] (fun i u wr => ∃ (k : Nat) (L : List Nat), k ≤ l.length ∧ i = .int .i64 (k : Int) ∧ Hid (L.length ≤ k) ∧ Hid (StrictN L ∧ ∀ n, n ∈ L ↔ hasN p (l.take k) n) ∧ Hid (OwnI wr w0.heap.size u L) ∧ Hid (Below w0.heap.size w0 wr)) (fun i _ _ => l.length - (intOf i).toNat)
  case atStart =>
    refine ⟨0, [], Nat.zero_le _, rfl, Nat.le_refl _, ⟨List.Pairwise.nil, fun n => ⟨(fun h => by cases h), ?_⟩⟩, ⟨World.ownsRow_nil _ _ _ _, ⟨fun _ => rfl, fun _ => rfl⟩⟩, Below.refl _ _⟩
    rintro ⟨r, hr, _⟩
    rw [List.take_zero] at hr
    cases hr
  case round =>
    obtain ⟨k, L, hk, rfl, hLk, hL, hown, hbl⟩ := hrel
    obtain ⟨wo, hwo⟩ : ∃ wo, wo = wr := ⟨_, rfl⟩
    subst hwo
    have hbw := below_then HB0.out hbl.out
    have HBW := Lib.hid hbw
    have D1 := HD0.out.keep hbl.out
    have d2 := D1.c
    have d3 := D1.lt
    clear hbw D1
    by_cases hlt : k < l.length
    · obtain ⟨b1, off1, cap1, hv, _, _, hb1, c0, c1, c2⟩ := (hr.below HBW.out).file k hlt
      obtain ⟨rfl, rfl⟩ : q = some ⟨b1, off1, none⟩ ∧ cap = cap1 := by simpa using hv
      have hnum := number2_any p l[k].name
      have HNUM := Lib.hid hnum
      clear hv hnum
      cases hn : numB p l[k].name with
      | none =>
        have HN := Lib.hid hn
        rw [hn] at HNUM
        clear hn
        go_wp2_with (go_at_call 58; refine (HNUM.out _ hp).mono ?_; rintro e w1 ⟨rfl, rfl⟩; unfold numI)
        go_roundw
        case rel =>
          refine ⟨k + 1, L, by omega, by go_num, Nat.le_succ_of_le hLk.out, ⟨hL.out.1, fun n => ?_⟩, hown.out, hbl.out⟩
          rw [hasN_snoc hlt, HN.out, hL.out.2]
          simp
        case measure => simp [intOf]; omega
      | some n =>
        have HN := Lib.hid hn
        rw [hn] at HNUM
        clear hn
        have n0 : ¬ (n : Int) < 0 := by omega
        by_cases hnil : L = []
        · subst hnil
          have hu := hown.out.2.2 rfl
          subst hu
          go_wp2_with (go_at_call 58; refine (HNUM.out _ hp).mono ?_; rintro e w1 ⟨rfl, rfl⟩; unfold numI)
          have HOWN0 := hown
          go_wp2_with (go_at_call 58; refine (HNUM.out _ hp).mono ?_; rintro e w1 ⟨rfl, rfl⟩; unfold numI)
          go_loop [8] (fun a => a = .int .i64 0) (fun _ => 0)
          case atStart => rfl
          case round =>
            subst hrel
            go_wp2_with (first
              | (at_builtin; refine wpList_append_first rfl _ _ 67 rfl wo.heap.size 3 i0 (.int .i64 0) 1 8 Try.underlying67 hi hz0 hz1 hz2 rfl (by decide) wo.heap.size rfl ?a1q1 _ 0 (intCells (([] : List Nat).take 0)) rfl ?a2q1 (int_one _) ?a3q1 ?a4q1 ?a5q1 ?_; rotate_right 1; intro p1 c1 w1 ho1 hg1; have HO1 := Lib.hid ho1; have HG1 := Lib.hid hg1; clear ho1 hg1)
              | (at_builtin; refine wpList_append_own _ rfl _ _ 67 rfl wo.heap.size 3 i0 (.int .i64 0) 1 8 Try.underlying67 hi hz0 hz1 hz2 rfl (by decide) (.slice p1 0 c1) 0 (intCells (([] : List Nat).take 0)) rfl ?b1q1 ⟨w1.heap.size, 0, none⟩ 1 1 [.int .i64 (n : Int)] rfl rfl ?b2q1 ?b3q1 ?b4q1 ?b5q1 ?b6q1 ?_; rotate_right 1; intro v2 w2 ho2 hg2 hn2; obtain ⟨p2, c2, rfl⟩ := owns_shape ho2; have HO2 := Lib.hid ho2; have HG2 := Lib.hid hg2; clear ho2 hg2 hn2)
              | (at_builtin; refine wpList_append_reads rfl _ _ 67 rfl wo.heap.size 3 i0 (.int .i64 0) 1 8 Try.underlying67 hi hz0 hz1 hz2 rfl (by decide) (.slice p2 (0 + 1) c2) (0 + 1) (intCells (([] : List Nat).take 0) ++ [.int .i64 (n : Int)]) rfl ?e1q1 _ (([] : List Nat).length - 0) (intCells (([] : List Nat).drop 0)) rfl ?e2q1 (int_one _) ?e4q1 ?e5q1 ?e6q1 ?_; rotate_right 1; intro p3 c3 w3 ho3 hg3; have HO3 := Lib.hid ho3; have HG3 := Lib.hid hg3; clear ho3 hg3))
            try case a1q1 => exact owns_empty (heap_alloc_new _ _) (Nat.le_refl _)
            try case a2q1 => exact reads_nil _ 1
            try case a3q1 => unfold maxLen; omega
            try case a4q1 => omega
            try case a5q1 => simp
            try case b1q1 => exact owns_below HO1.out (below1 _ _)
            try case b2q1 =>
              intro j u hu
              rw [add_lit, Nat.zero_add, cell_of_row _ _ _ _ 3 _ (heap_alloc_new _ _)]
              simpa using hu
            try case b3q1 => first | rfl | (intro u hu; rw [List.mem_singleton] at hu; subst hu; rfl) | simp [Value.oneCell']
            try case b4q1 => unfold maxLen; omega
            try case b5q1 => omega
            try case b6q1 => have := HG1.out.size; simp at *; omega
            try case e1q1 => exact HO2.out
            try case e2q1 => exact reads_nil _ 1
            try case e4q1 => unfold maxLen; omega
            try case e5q1 => omega
            try case e6q1 => have := HG1.out.size; have := HG2.out.size; simp at *; omega
            case roundEnd =>
              have N3 : Below wo.heap.size wo w3 := below_grown (below_grown (nb_alloc (Below.grown (nb_alloc (nb_refl wo) _) HG1.out (by simp) (fun j hj => by have := Option.some.inj hj; omega)) _) (owns_below HO1.out (below1 _ _)) HG2.out) HO2.out HG3.out
              refine ⟨⟨k + 1, ([] : List Nat).take 0 ++ n :: ([] : List Nat).drop 0, by omega, by go_num, ?_, ⟨by simp [StrictN], fun m => ?_⟩, ?_, below_then hbl.out N3⟩, by simp [intOf]; omega⟩
              · show _ ≤ _
                rw [List.length_append, List.length_cons, List.length_take, List.length_drop]
                have := hLk.out
                omega
              · rw [hasN_snoc hlt, HN.out, ← hL.out.2 m]
                have e : m ∈ ([] : List Nat).take 0 ++ n :: ([] : List Nat).drop 0 ↔ m ∈ ([] : List Nat) ∨ m = n := by
                  have h1 : m ∈ ([] : List Nat) ↔ m ∈ ([] : List Nat).take 0 ∨ m ∈ ([] : List Nat).drop 0 := by rw [← List.mem_append, List.take_append_drop]
                  rw [List.mem_append, List.mem_cons, h1]
                  constructor
                  · rintro (h | h | h)
                    · exact .inl (.inl h)
                    · exact .inr h
                    · exact .inl (.inr h)
                  · rintro ((h | h) | h)
                    · exact .inl h
                    · exact .inr (.inr h)
                    · exact .inr (.inl h)
                rw [e]
                constructor
                · rintro (h | h)
                  · exact .inl h
                  · exact .inr (by rw [h])
                · rintro (h | h)
                  · exact .inl h
                  · exact .inr (Option.some.inj h).symm
              · have e1 : (([] : List Nat).take 0 ++ n :: ([] : List Nat).drop 0).length = 0 + 1 + (([] : List Nat).length - 0) := by rw [List.length_append, List.length_cons, List.length_take, List.length_drop]; omega
                have e2 : intCells (([] : List Nat).take 0 ++ n :: ([] : List Nat).drop 0) = intCells (([] : List Nat).take 0) ++ [.int .i64 (n : Int)] ++ intCells (([] : List Nat).drop 0) := by simp [intCells]
                refine ⟨?_, ⟨fun h => ?_, fun h => ?_⟩⟩
                · rw [e1, e2]
                  have h3 := owns_mono HO3.out hbl.out.size
                  first
                    | exact h3
                    | (have hz : ([] : List Nat).length - 0 = 0 := by have hte := HTE.out; omega
                       rw [hz] at h3 ⊢
                       exact h3)
                · simp only [Value.slice.injEq] at h; omega
                · have := congrArg List.length h; rw [e1] at this; simp at this
        · obtain ⟨g, cap2, rfl, hlc, hcm, hgl, hBg, hcell⟩ := hown.out.is hnil
          have hcm2 : cap2 ≤ 9223372036854775807 := by unfold maxLen at hcm; omega
          have HCELL := Lib.hid hcell
          have hLb : L.length ≤ 1099511627776 := by have := hLk.out; omega
          clear hcell
          go_wp2_with (go_at_call 58; refine (HNUM.out _ hp).mono ?_; rintro e w1 ⟨rfl, rfl⟩; unfold numI)
          go_loop [8] (fun a => ∃ t : Nat, a = .int .i64 (t : Int) ∧ t ≤ L.length ∧ Hid (∀ x ∈ L.drop t, n ≤ x)) (fun a => (intOf a).toNat)
          case atStart => exact ⟨L.length, rfl, Nat.le_refl _, fun x hx => by rw [List.drop_eq_nil_of_le (Nat.le_refl _)] at hx; cases hx⟩
          case round =>
            obtain ⟨t, rfl, htL, HC⟩ := hrel
            by_cases h0 : 0 < t
            · obtain ⟨s, rfl⟩ : ∃ s, t = s + 1 := ⟨t - 1, by omega⟩
              have hsL : s < L.length := by omega
              obtain ⟨z, hz⟩ : ∃ z, L[s] = z := ⟨_, rfl⟩
              have cz := HCELL.out s hsL
              rw [hz] at cz
              have HZ := Lib.hid hz
              have b1 : (0 : Int) < (s : Int) + 1 := by omega
              have b2 : (s : Int) < (L.length : Int) := by omega
              have b3 : (0 : Int) ≤ (s : Int) + 1 := by omega
              have w3 : IntKind.i64.wrap ((s : Int) + 1 - 1) = (s : Int) := by rw [show (s : Int) + 1 - 1 = (s : Int) by omega]; exact IntWalk.i64_in _ (by omega)
              have w4 : IntKind.i64.wrap (s : Int) = (s : Int) := IntWalk.i64_in _ (by omega)
              clear hz
              by_cases hge : n ≤ z
              · have b4 : (n : Int) ≤ (z : Int) := by omega
                have b5 : ¬ (z : Int) < (n : Int) := by omega
                have b6 : decide ((n : Int) ≤ (z : Int)) = true := decide_eq_true b4
                go_wp2_with fail
                go_round
                case rel =>
                  refine ⟨s, by go_num, by omega, fun x hx => ?_⟩
                  rw [List.drop_eq_getElem_cons hsL, HZ.out] at hx
                  rcases List.mem_cons.1 hx with rfl | hx
                  · exact hge
                  · exact HC.out x hx
                case measure => simp [intOf]
              · have b4 : ¬ (n : Int) ≤ (z : Int) := by omega
                have hA : ∀ a ∈ L.take (s + 1), a < n := fun a ha => by
                  rw [List.take_succ_eq_append_getElem hsL, HZ.out] at ha
                  rcases List.mem_append.1 ha with ha | ha
                  · have h3 := List.pairwise_append.1 (show (L.take s ++ L.drop s).Pairwise (· < ·) by rw [List.take_append_drop]; exact hL.out.1)
                    have h4 := h3.2.2 a ha z (by rw [List.drop_eq_getElem_cons hsL, HZ.out]; simp)
                    omega
                  · rw [List.mem_singleton] at ha; omega
                have HA := Lib.hid hA
                clear hA cz
                obtain ⟨t, ht⟩ : ∃ t, s + 1 = t := ⟨_, rfl⟩
                have htI : (s : Int) + 1 = (t : Int) := by omega
                have b1t : (0 : Int) < (t : Int) := by omega
                have htL2 : t ≤ L.length := by omega
                rw [show ((s + 1 : Nat) : Int) = (t : Int) by omega]
                have HC2 : Hid (∀ x ∈ L.drop t, n ≤ x) := ht ▸ HC
                have HA2 : Hid (∀ a ∈ L.take t, a < n) := ht ▸ HA
                have cz2 : wo.cell? ⟨g, s, none⟩ = some (.int .i64 (z : Int)) := by rw [← HZ.out]; exact HCELL.out s hsL
                have w5 : IntKind.i64.wrap ((t : Int) - 1) = (s : Int) := by rw [show (t : Int) - 1 = (s : Int) by omega]; exact IntWalk.i64_in _ (by omega)
                have b9 : ¬ (z : Int) ≥ (n : Int) := by omega
                clear HC HA b1 b3 w3 w4 htI ht
                have hpt := OwnI.parts hown.out.1 rfl t (by omega) hlc hcm
                have HP1 : Hid (∀ W, Below wo.heap.size wo W → _) := Lib.hid fun W hW => hpt.1.below hW
                have HP2 : Hid (∀ W, Below wo.heap.size wo W → _) := Lib.hid fun W hW => hpt.2.below hW
                clear hpt
                have j1 : (0 : Int) ≤ (t : Int) := by omega
                have j2 : (t : Int) ≤ (cap2 : Int) := by omega
                have j3 : (t : Int) ≤ (L.length : Int) := by omega
                have j4 : (L.length : Int) ≤ (cap2 : Int) := by omega
                by_cases hin : t < L.length
                · obtain ⟨y, hy⟩ : ∃ y, L[t] = y := ⟨_, rfl⟩
                  have cy := HCELL.out t hin
                  rw [hy] at cy
                  have HY := Lib.hid hy
                  have b7 : (t : Int) < (L.length : Int) := by omega
                  clear hy
                  by_cases heq : y = n
                  · have q1 : ((y : Int) == (n : Int)) = true := by rw [beq_iff_eq]; omega
                    have q2 : (y : Int) = (n : Int) := by omega
                    have HEQ := Lib.hid heq
                    clear heq
                    go_wp2_with fail
                    go_roundw
                    case rel =>
                      refine ⟨k + 1, L, by omega, by go_num, Nat.le_succ_of_le hLk.out, ⟨hL.out.1, fun m => ?_⟩, hown.out, hbl.out⟩
                      rw [hasN_snoc hlt, HN.out, ← hL.out.2 m]
                      constructor
                      · exact .inl
                      · rintro (h | h)
                        · exact h
                        · have e : m = n := (Option.some.inj h).symm
                          rw [e, ← HEQ.out, ← HY.out]
                          exact List.getElem_mem _
                    case measure => simp [intOf]; omega
                  · have q1 : ((y : Int) == (n : Int)) = false := by rw [beq_eq_false_iff_ne]; omega
                    have q2 : ¬ (y : Int) = (n : Int) := by omega
                    have hst : ∀ c ∈ L.drop t, n < c := fun c hc => by
                      have h1 := HC2.out c hc
                      rw [List.drop_eq_getElem_cons hin] at hc
                      have h2 := HC2.out L[t] (by rw [List.drop_eq_getElem_cons hin]; exact List.mem_cons_self)
                      rw [HY.out] at h2 hc
                      rcases List.mem_cons.1 hc with rfl | hc
                      · omega
                      · have h3 := List.pairwise_append.1 (show (L.take (t + 1) ++ L.drop (t + 1)).Pairwise (· < ·) by rw [List.take_append_drop]; exact hL.out.1)
                        have h4 := h3.2.2 y (by rw [List.take_succ_eq_append_getElem hin, HY.out]; simp) c hc
                        omega
                    have HST := Lib.hid hst
                    have hct : ¬ cap2 = t := by omega
                    clear hst heq
                    go_wp2_with (first
                      | (at_builtin; refine wpList_append_first rfl _ _ 67 rfl wo.heap.size 3 i0 (.int .i64 0) 1 8 Try.underlying67 hi hz0 hz1 hz2 rfl (by decide) wo.heap.size rfl ?a1q2 _ t (intCells (L.take t)) rfl ?a2q2 (int_one _) ?a3q2 ?a4q2 ?a5q2 ?_; rotate_right 1; intro p1 c1 w1 ho1 hg1; have HO1 := Lib.hid ho1; have HG1 := Lib.hid hg1; clear ho1 hg1)
                      | (at_builtin; refine wpList_append_own _ rfl _ _ 67 rfl wo.heap.size 3 i0 (.int .i64 0) 1 8 Try.underlying67 hi hz0 hz1 hz2 rfl (by decide) (.slice p1 t c1) t (intCells (L.take t)) rfl ?b1q2 ⟨w1.heap.size, 0, none⟩ 1 1 [.int .i64 (n : Int)] rfl rfl ?b2q2 ?b3q2 ?b4q2 ?b5q2 ?b6q2 ?_; rotate_right 1; intro v2 w2 ho2 hg2 hn2; obtain ⟨p2, c2, rfl⟩ := owns_shape ho2; have HO2 := Lib.hid ho2; have HG2 := Lib.hid hg2; clear ho2 hg2 hn2)
                      | (at_builtin; refine wpList_append_reads rfl _ _ 67 rfl wo.heap.size 3 i0 (.int .i64 0) 1 8 Try.underlying67 hi hz0 hz1 hz2 rfl (by decide) (.slice p2 (t + 1) c2) (t + 1) (intCells (L.take t) ++ [.int .i64 (n : Int)]) rfl ?e1q2 _ (L.length - t) (intCells (L.drop t)) rfl ?e2q2 (int_one _) ?e4q2 ?e5q2 ?e6q2 ?_; rotate_right 1; intro p3 c3 w3 ho3 hg3; have HO3 := Lib.hid ho3; have HG3 := Lib.hid hg3; clear ho3 hg3))
                    try case a1q2 => exact owns_empty (heap_alloc_new _ _) (Nat.le_refl _)
                    try case a2q2 => exact HP1.out _ (nb_alloc (nb_refl _) _)
                    try case a3q2 => unfold maxLen; omega
                    try case a4q2 => omega
                    try case a5q2 => simp
                    try case b1q2 => exact owns_below HO1.out (below1 _ _)
                    try case b2q2 =>
                      intro j u hu
                      rw [add_lit, Nat.zero_add, cell_of_row _ _ _ _ 3 _ (heap_alloc_new _ _)]
                      simpa using hu
                    try case b3q2 => first | rfl | (intro u hu; rw [List.mem_singleton] at hu; subst hu; rfl) | simp [Value.oneCell']
                    try case b4q2 => unfold maxLen; omega
                    try case b5q2 => omega
                    try case b6q2 => have := HG1.out.size; simp at *; omega
                    try case e1q2 => exact HO2.out
                    try case e2q2 => exact HP2.out _ (below_grown (nb_alloc (Below.grown (nb_alloc (nb_refl wo) _) HG1.out (by simp) (fun j hj => by have := Option.some.inj hj; omega)) _) (owns_below HO1.out (below1 _ _)) HG2.out)
                    try case e4q2 => unfold maxLen; omega
                    try case e5q2 => omega
                    try case e6q2 => have := HG1.out.size; have := HG2.out.size; simp at *; omega
                    case roundEnd =>
                      have N3 : Below wo.heap.size wo w3 := below_grown (below_grown (nb_alloc (Below.grown (nb_alloc (nb_refl wo) _) HG1.out (by simp) (fun j hj => by have := Option.some.inj hj; omega)) _) (owns_below HO1.out (below1 _ _)) HG2.out) HO2.out HG3.out
                      refine ⟨⟨k + 1, L.take t ++ n :: L.drop t, by omega, by go_num, ?_, ⟨strict_put (by rw [List.take_append_drop]; exact hL.out.1) HA2.out HST.out, fun m => ?_⟩, ?_, below_then hbl.out N3⟩, by simp [intOf]; omega⟩
                      · show _ ≤ _
                        rw [List.length_append, List.length_cons, List.length_take, List.length_drop]
                        have := hLk.out
                        omega
                      · rw [hasN_snoc hlt, HN.out, ← hL.out.2 m]
                        have e : m ∈ L.take t ++ n :: L.drop t ↔ m ∈ L ∨ m = n := by
                          have h1 : m ∈ L ↔ m ∈ L.take t ∨ m ∈ L.drop t := by rw [← List.mem_append, List.take_append_drop]
                          rw [List.mem_append, List.mem_cons, h1]
                          constructor
                          · rintro (h | h | h)
                            · exact .inl (.inl h)
                            · exact .inr h
                            · exact .inl (.inr h)
                          · rintro ((h | h) | h)
                            · exact .inl h
                            · exact .inr (.inr h)
                            · exact .inr (.inl h)
                        rw [e]
                        constructor
                        · rintro (h | h)
                          · exact .inl h
                          · exact .inr (by rw [h])
                        · rintro (h | h)
                          · exact .inl h
                          · exact .inr (Option.some.inj h).symm
                      · have e1 : (L.take t ++ n :: L.drop t).length = t + 1 + (L.length - t) := by rw [List.length_append, List.length_cons, List.length_take, List.length_drop]; omega
                        have e2 : intCells (L.take t ++ n :: L.drop t) = intCells (L.take t) ++ [.int .i64 (n : Int)] ++ intCells (L.drop t) := by simp [intCells]
                        refine ⟨?_, ⟨fun h => ?_, fun h => ?_⟩⟩
                        · rw [e1, e2]
                          have h3 := owns_mono HO3.out hbl.out.size
                          first
                            | exact h3
                            | (have hz : L.length - t = 0 := by have hte := HTE.out; omega
                               rw [hz] at h3 ⊢
                               exact h3)
                        · simp only [Value.slice.injEq] at h; omega
                        · have := congrArg List.length h; rw [e1] at this; simp at this
                · have hte : t = L.length := by omega
                  have b7 : ¬ (t : Int) < (L.length : Int) := by omega
                  have hst : ∀ c ∈ L.drop t, n < c := fun c hc => by rw [List.drop_eq_nil_of_le (by omega)] at hc; cases hc
                  have HST := Lib.hid hst
                  have HTE := Lib.hid hte
                  clear hst hte
                  by_cases hct : cap2 = t
                  · have hct2 : t = cap2 := hct.symm
                    subst hct2
                    go_wp2_with (first
                      | (at_builtin; refine wpList_append_first rfl _ _ 67 rfl wo.heap.size 3 i0 (.int .i64 0) 1 8 Try.underlying67 hi hz0 hz1 hz2 rfl (by decide) wo.heap.size rfl ?a1q3 _ t (intCells (L.take t)) rfl ?a2q3 (int_one _) ?a3q3 ?a4q3 ?a5q3 ?_; rotate_right 1; intro p1 c1 w1 ho1 hg1; have HO1 := Lib.hid ho1; have HG1 := Lib.hid hg1; clear ho1 hg1)
                      | (at_builtin; refine wpList_append_own _ rfl _ _ 67 rfl wo.heap.size 3 i0 (.int .i64 0) 1 8 Try.underlying67 hi hz0 hz1 hz2 rfl (by decide) (.slice p1 t c1) t (intCells (L.take t)) rfl ?b1q3 ⟨w1.heap.size, 0, none⟩ 1 1 [.int .i64 (n : Int)] rfl rfl ?b2q3 ?b3q3 ?b4q3 ?b5q3 ?b6q3 ?_; rotate_right 1; intro v2 w2 ho2 hg2 hn2; obtain ⟨p2, c2, rfl⟩ := owns_shape ho2; have HO2 := Lib.hid ho2; have HG2 := Lib.hid hg2; clear ho2 hg2 hn2)
                      | (at_builtin; refine wpList_append_reads rfl _ _ 67 rfl wo.heap.size 3 i0 (.int .i64 0) 1 8 Try.underlying67 hi hz0 hz1 hz2 rfl (by decide) (.slice p2 (t + 1) c2) (t + 1) (intCells (L.take t) ++ [.int .i64 (n : Int)]) rfl ?e1q3 _ (L.length - t) (intCells (L.drop t)) rfl ?e2q3 (int_one _) ?e4q3 ?e5q3 ?e6q3 ?_; rotate_right 1; intro p3 c3 w3 ho3 hg3; have HO3 := Lib.hid ho3; have HG3 := Lib.hid hg3; clear ho3 hg3))
                    try case a1q3 => exact owns_empty (heap_alloc_new _ _) (Nat.le_refl _)
                    try case a2q3 => exact HP1.out _ (nb_alloc (nb_refl _) _)
                    try case a3q3 => unfold maxLen; omega
                    try case a4q3 => omega
                    try case a5q3 => simp
                    try case b1q3 => exact owns_below HO1.out (below1 _ _)
                    try case b2q3 =>
                      intro j u hu
                      rw [add_lit, Nat.zero_add, cell_of_row _ _ _ _ 3 _ (heap_alloc_new _ _)]
                      simpa using hu
                    try case b3q3 => first | rfl | (intro u hu; rw [List.mem_singleton] at hu; subst hu; rfl) | simp [Value.oneCell']
                    try case b4q3 => unfold maxLen; omega
                    try case b5q3 => omega
                    try case b6q3 => have := HG1.out.size; simp at *; omega
                    try case e1q3 => exact HO2.out
                    try case e2q3 => (have hte := HTE.out); (have hz : L.length - t = 0 := by omega); (have hdz : L.drop t = [] := List.drop_eq_nil_of_le (by omega)); rw [hdz]; (try rw [hz]); exact ⟨rfl, .inr ⟨_, _, rfl, Nat.zero_le _, by unfold maxLen; omega, fun j u hu => by cases hu⟩⟩
                    try case e4q3 => unfold maxLen; omega
                    try case e5q3 => omega
                    try case e6q3 => have := HG1.out.size; have := HG2.out.size; simp at *; omega
                    case roundEnd =>
                      have N3 : Below wo.heap.size wo w3 := below_grown (below_grown (nb_alloc (Below.grown (nb_alloc (nb_refl wo) _) HG1.out (by simp) (fun j hj => by have := Option.some.inj hj; omega)) _) (owns_below HO1.out (below1 _ _)) HG2.out) HO2.out HG3.out
                      refine ⟨⟨k + 1, L.take t ++ n :: L.drop t, by omega, by go_num, ?_, ⟨strict_put (by rw [List.take_append_drop]; exact hL.out.1) HA2.out HST.out, fun m => ?_⟩, ?_, below_then hbl.out N3⟩, by simp [intOf]; omega⟩
                      · show _ ≤ _
                        rw [List.length_append, List.length_cons, List.length_take, List.length_drop]
                        have := hLk.out
                        omega
                      · rw [hasN_snoc hlt, HN.out, ← hL.out.2 m]
                        have e : m ∈ L.take t ++ n :: L.drop t ↔ m ∈ L ∨ m = n := by
                          have h1 : m ∈ L ↔ m ∈ L.take t ∨ m ∈ L.drop t := by rw [← List.mem_append, List.take_append_drop]
                          rw [List.mem_append, List.mem_cons, h1]
                          constructor
                          · rintro (h | h | h)
                            · exact .inl (.inl h)
                            · exact .inr h
                            · exact .inl (.inr h)
                          · rintro ((h | h) | h)
                            · exact .inl h
                            · exact .inr (.inr h)
                            · exact .inr (.inl h)
                        rw [e]
                        constructor
                        · rintro (h | h)
                          · exact .inl h
                          · exact .inr (by rw [h])
                        · rintro (h | h)
                          · exact .inl h
                          · exact .inr (Option.some.inj h).symm
                      · have e1 : (L.take t ++ n :: L.drop t).length = t + 1 + (L.length - t) := by rw [List.length_append, List.length_cons, List.length_take, List.length_drop]; omega
                        have e2 : intCells (L.take t ++ n :: L.drop t) = intCells (L.take t) ++ [.int .i64 (n : Int)] ++ intCells (L.drop t) := by simp [intCells]
                        refine ⟨?_, ⟨fun h => ?_, fun h => ?_⟩⟩
                        · rw [e1, e2]
                          have h3 := owns_mono HO3.out hbl.out.size
                          first
                            | exact h3
                            | (have hz : L.length - t = 0 := by have hte := HTE.out; omega
                               rw [hz] at h3 ⊢
                               exact h3)
                        · simp only [Value.slice.injEq] at h; omega
                        · have := congrArg List.length h; rw [e1] at this; simp at this
                  · skip
                    go_wp2_with (first
                      | (at_builtin; refine wpList_append_first rfl _ _ 67 rfl wo.heap.size 3 i0 (.int .i64 0) 1 8 Try.underlying67 hi hz0 hz1 hz2 rfl (by decide) wo.heap.size rfl ?a1q4 _ t (intCells (L.take t)) rfl ?a2q4 (int_one _) ?a3q4 ?a4q4 ?a5q4 ?_; rotate_right 1; intro p1 c1 w1 ho1 hg1; have HO1 := Lib.hid ho1; have HG1 := Lib.hid hg1; clear ho1 hg1)
                      | (at_builtin; refine wpList_append_own _ rfl _ _ 67 rfl wo.heap.size 3 i0 (.int .i64 0) 1 8 Try.underlying67 hi hz0 hz1 hz2 rfl (by decide) (.slice p1 t c1) t (intCells (L.take t)) rfl ?b1q4 ⟨w1.heap.size, 0, none⟩ 1 1 [.int .i64 (n : Int)] rfl rfl ?b2q4 ?b3q4 ?b4q4 ?b5q4 ?b6q4 ?_; rotate_right 1; intro v2 w2 ho2 hg2 hn2; obtain ⟨p2, c2, rfl⟩ := owns_shape ho2; have HO2 := Lib.hid ho2; have HG2 := Lib.hid hg2; clear ho2 hg2 hn2)
                      | (at_builtin; refine wpList_append_reads rfl _ _ 67 rfl wo.heap.size 3 i0 (.int .i64 0) 1 8 Try.underlying67 hi hz0 hz1 hz2 rfl (by decide) (.slice p2 (t + 1) c2) (t + 1) (intCells (L.take t) ++ [.int .i64 (n : Int)]) rfl ?e1q4 _ (L.length - t) (intCells (L.drop t)) rfl ?e2q4 (int_one _) ?e4q4 ?e5q4 ?e6q4 ?_; rotate_right 1; intro p3 c3 w3 ho3 hg3; have HO3 := Lib.hid ho3; have HG3 := Lib.hid hg3; clear ho3 hg3))
                    try case a1q4 => exact owns_empty (heap_alloc_new _ _) (Nat.le_refl _)
                    try case a2q4 => exact HP1.out _ (nb_alloc (nb_refl _) _)
                    try case a3q4 => unfold maxLen; omega
                    try case a4q4 => omega
                    try case a5q4 => simp
                    try case b1q4 => exact owns_below HO1.out (below1 _ _)
                    try case b2q4 =>
                      intro j u hu
                      rw [add_lit, Nat.zero_add, cell_of_row _ _ _ _ 3 _ (heap_alloc_new _ _)]
                      simpa using hu
                    try case b3q4 => first | rfl | (intro u hu; rw [List.mem_singleton] at hu; subst hu; rfl) | simp [Value.oneCell']
                    try case b4q4 => unfold maxLen; omega
                    try case b5q4 => omega
                    try case b6q4 => have := HG1.out.size; simp at *; omega
                    try case e1q4 => exact HO2.out
                    try case e2q4 => exact HP2.out _ (below_grown (nb_alloc (Below.grown (nb_alloc (nb_refl wo) _) HG1.out (by simp) (fun j hj => by have := Option.some.inj hj; omega)) _) (owns_below HO1.out (below1 _ _)) HG2.out)
                    try case e4q4 => unfold maxLen; omega
                    try case e5q4 => omega
                    try case e6q4 => have := HG1.out.size; have := HG2.out.size; simp at *; omega
                    case roundEnd =>
                      have N3 : Below wo.heap.size wo w3 := below_grown (below_grown (nb_alloc (Below.grown (nb_alloc (nb_refl wo) _) HG1.out (by simp) (fun j hj => by have := Option.some.inj hj; omega)) _) (owns_below HO1.out (below1 _ _)) HG2.out) HO2.out HG3.out
                      refine ⟨⟨k + 1, L.take t ++ n :: L.drop t, by omega, by go_num, ?_, ⟨strict_put (by rw [List.take_append_drop]; exact hL.out.1) HA2.out HST.out, fun m => ?_⟩, ?_, below_then hbl.out N3⟩, by simp [intOf]; omega⟩
                      · show _ ≤ _
                        rw [List.length_append, List.length_cons, List.length_take, List.length_drop]
                        have := hLk.out
                        omega
                      · rw [hasN_snoc hlt, HN.out, ← hL.out.2 m]
                        have e : m ∈ L.take t ++ n :: L.drop t ↔ m ∈ L ∨ m = n := by
                          have h1 : m ∈ L ↔ m ∈ L.take t ∨ m ∈ L.drop t := by rw [← List.mem_append, List.take_append_drop]
                          rw [List.mem_append, List.mem_cons, h1]
                          constructor
                          · rintro (h | h | h)
                            · exact .inl (.inl h)
                            · exact .inr h
                            · exact .inl (.inr h)
                          · rintro ((h | h) | h)
                            · exact .inl h
                            · exact .inr (.inr h)
                            · exact .inr (.inl h)
                        rw [e]
                        constructor
                        · rintro (h | h)
                          · exact .inl h
                          · exact .inr (by rw [h])
                        · rintro (h | h)
                          · exact .inl h
                          · exact .inr (Option.some.inj h).symm
                      · have e1 : (L.take t ++ n :: L.drop t).length = t + 1 + (L.length - t) := by rw [List.length_append, List.length_cons, List.length_take, List.length_drop]; omega
                        have e2 : intCells (L.take t ++ n :: L.drop t) = intCells (L.take t) ++ [.int .i64 (n : Int)] ++ intCells (L.drop t) := by simp [intCells]
                        refine ⟨?_, ⟨fun h => ?_, fun h => ?_⟩⟩
                        · rw [e1, e2]
                          have h3 := owns_mono HO3.out hbl.out.size
                          first
                            | exact h3
                            | (have hz : L.length - t = 0 := by have hte := HTE.out; omega
                               rw [hz] at h3 ⊢
                               exact h3)
                        · simp only [Value.slice.injEq] at h; omega
                        · have := congrArg List.length h; rw [e1] at this; simp at this
            · obtain rfl : t = 0 := by omega
              have HA2 : Hid (∀ a ∈ L.take 0, a < n) := Lib.hid fun a ha => by rw [List.take_zero] at ha; cases ha
              obtain ⟨t, ht0⟩ : ∃ t : Nat, t = 0 := ⟨0, rfl⟩
              have htL2 : t ≤ L.length := by omega
              rw [show ((0 : Nat) : Int) = (t : Int) by omega]
              have HC2 : Hid (∀ x ∈ L.drop t, n ≤ x) := by rw [ht0]; exact HC
              have HA2 : Hid (∀ a ∈ L.take t, a < n) := by rw [ht0]; exact HA2
              have b1t : ¬ (0 : Int) < (t : Int) := by omega
              clear HC ht0
              have hpt := OwnI.parts hown.out.1 rfl t (by omega) hlc hcm
              have HP1 : Hid (∀ W, Below wo.heap.size wo W → _) := Lib.hid fun W hW => hpt.1.below hW
              have HP2 : Hid (∀ W, Below wo.heap.size wo W → _) := Lib.hid fun W hW => hpt.2.below hW
              clear hpt
              have j1 : (0 : Int) ≤ (t : Int) := by omega
              have j2 : (t : Int) ≤ (cap2 : Int) := by omega
              have j3 : (t : Int) ≤ (L.length : Int) := by omega
              have j4 : (L.length : Int) ≤ (cap2 : Int) := by omega
              by_cases hin : t < L.length
              · obtain ⟨y, hy⟩ : ∃ y, L[t] = y := ⟨_, rfl⟩
                have cy := HCELL.out t hin
                rw [hy] at cy
                have HY := Lib.hid hy
                have b7 : (t : Int) < (L.length : Int) := by omega
                clear hy
                by_cases heq : y = n
                · have q1 : ((y : Int) == (n : Int)) = true := by rw [beq_iff_eq]; omega
                  have q2 : (y : Int) = (n : Int) := by omega
                  have HEQ := Lib.hid heq
                  clear heq
                  go_wp2_with fail
                  go_roundw
                  case rel =>
                    refine ⟨k + 1, L, by omega, by go_num, Nat.le_succ_of_le hLk.out, ⟨hL.out.1, fun m => ?_⟩, hown.out, hbl.out⟩
                    rw [hasN_snoc hlt, HN.out, ← hL.out.2 m]
                    constructor
                    · exact .inl
                    · rintro (h | h)
                      · exact h
                      · have e : m = n := (Option.some.inj h).symm
                        rw [e, ← HEQ.out, ← HY.out]
                        exact List.getElem_mem _
                  case measure => simp [intOf]; omega
                · have q1 : ((y : Int) == (n : Int)) = false := by rw [beq_eq_false_iff_ne]; omega
                  have q2 : ¬ (y : Int) = (n : Int) := by omega
                  have hst : ∀ c ∈ L.drop t, n < c := fun c hc => by
                    have h1 := HC2.out c hc
                    rw [List.drop_eq_getElem_cons hin] at hc
                    have h2 := HC2.out L[t] (by rw [List.drop_eq_getElem_cons hin]; exact List.mem_cons_self)
                    rw [HY.out] at h2 hc
                    rcases List.mem_cons.1 hc with rfl | hc
                    · omega
                    · have h3 := List.pairwise_append.1 (show (L.take (t + 1) ++ L.drop (t + 1)).Pairwise (· < ·) by rw [List.take_append_drop]; exact hL.out.1)
                      have h4 := h3.2.2 y (by rw [List.take_succ_eq_append_getElem hin, HY.out]; simp) c hc
                      omega
                  have HST := Lib.hid hst
                  have hct : ¬ cap2 = t := by omega
                  clear hst heq
                  go_wp2_with (first
                    | (at_builtin; refine wpList_append_first rfl _ _ 67 rfl wo.heap.size 3 i0 (.int .i64 0) 1 8 Try.underlying67 hi hz0 hz1 hz2 rfl (by decide) wo.heap.size rfl ?a1q5 _ t (intCells (L.take t)) rfl ?a2q5 (int_one _) ?a3q5 ?a4q5 ?a5q5 ?_; rotate_right 1; intro p1 c1 w1 ho1 hg1; have HO1 := Lib.hid ho1; have HG1 := Lib.hid hg1; clear ho1 hg1)
                    | (at_builtin; refine wpList_append_own _ rfl _ _ 67 rfl wo.heap.size 3 i0 (.int .i64 0) 1 8 Try.underlying67 hi hz0 hz1 hz2 rfl (by decide) (.slice p1 t c1) t (intCells (L.take t)) rfl ?b1q5 ⟨w1.heap.size, 0, none⟩ 1 1 [.int .i64 (n : Int)] rfl rfl ?b2q5 ?b3q5 ?b4q5 ?b5q5 ?b6q5 ?_; rotate_right 1; intro v2 w2 ho2 hg2 hn2; obtain ⟨p2, c2, rfl⟩ := owns_shape ho2; have HO2 := Lib.hid ho2; have HG2 := Lib.hid hg2; clear ho2 hg2 hn2)
                    | (at_builtin; refine wpList_append_reads rfl _ _ 67 rfl wo.heap.size 3 i0 (.int .i64 0) 1 8 Try.underlying67 hi hz0 hz1 hz2 rfl (by decide) (.slice p2 (t + 1) c2) (t + 1) (intCells (L.take t) ++ [.int .i64 (n : Int)]) rfl ?e1q5 _ (L.length - t) (intCells (L.drop t)) rfl ?e2q5 (int_one _) ?e4q5 ?e5q5 ?e6q5 ?_; rotate_right 1; intro p3 c3 w3 ho3 hg3; have HO3 := Lib.hid ho3; have HG3 := Lib.hid hg3; clear ho3 hg3))
                  try case a1q5 => exact owns_empty (heap_alloc_new _ _) (Nat.le_refl _)
                  try case a2q5 => exact HP1.out _ (nb_alloc (nb_refl _) _)
                  try case a3q5 => unfold maxLen; omega
                  try case a4q5 => omega
                  try case a5q5 => simp
                  try case b1q5 => exact owns_below HO1.out (below1 _ _)
                  try case b2q5 =>
                    intro j u hu
                    rw [add_lit, Nat.zero_add, cell_of_row _ _ _ _ 3 _ (heap_alloc_new _ _)]
                    simpa using hu
                  try case b3q5 => first | rfl | (intro u hu; rw [List.mem_singleton] at hu; subst hu; rfl) | simp [Value.oneCell']
                  try case b4q5 => unfold maxLen; omega
                  try case b5q5 => omega
                  try case b6q5 => have := HG1.out.size; simp at *; omega
                  try case e1q5 => exact HO2.out
                  try case e2q5 => exact HP2.out _ (below_grown (nb_alloc (Below.grown (nb_alloc (nb_refl wo) _) HG1.out (by simp) (fun j hj => by have := Option.some.inj hj; omega)) _) (owns_below HO1.out (below1 _ _)) HG2.out)
                  try case e4q5 => unfold maxLen; omega
                  try case e5q5 => omega
                  try case e6q5 => have := HG1.out.size; have := HG2.out.size; simp at *; omega
                  case roundEnd =>
                    have N3 : Below wo.heap.size wo w3 := below_grown (below_grown (nb_alloc (Below.grown (nb_alloc (nb_refl wo) _) HG1.out (by simp) (fun j hj => by have := Option.some.inj hj; omega)) _) (owns_below HO1.out (below1 _ _)) HG2.out) HO2.out HG3.out
                    refine ⟨⟨k + 1, L.take t ++ n :: L.drop t, by omega, by go_num, ?_, ⟨strict_put (by rw [List.take_append_drop]; exact hL.out.1) HA2.out HST.out, fun m => ?_⟩, ?_, below_then hbl.out N3⟩, by simp [intOf]; omega⟩
                    · show _ ≤ _
                      rw [List.length_append, List.length_cons, List.length_take, List.length_drop]
                      have := hLk.out
                      omega
                    · rw [hasN_snoc hlt, HN.out, ← hL.out.2 m]
                      have e : m ∈ L.take t ++ n :: L.drop t ↔ m ∈ L ∨ m = n := by
                        have h1 : m ∈ L ↔ m ∈ L.take t ∨ m ∈ L.drop t := by rw [← List.mem_append, List.take_append_drop]
                        rw [List.mem_append, List.mem_cons, h1]
                        constructor
                        · rintro (h | h | h)
                          · exact .inl (.inl h)
                          · exact .inr h
                          · exact .inl (.inr h)
                        · rintro ((h | h) | h)
                          · exact .inl h
                          · exact .inr (.inr h)
                          · exact .inr (.inl h)
                      rw [e]
                      constructor
                      · rintro (h | h)
                        · exact .inl h
                        · exact .inr (by rw [h])
                      · rintro (h | h)
                        · exact .inl h
                        · exact .inr (Option.some.inj h).symm
                    · have e1 : (L.take t ++ n :: L.drop t).length = t + 1 + (L.length - t) := by rw [List.length_append, List.length_cons, List.length_take, List.length_drop]; omega
                      have e2 : intCells (L.take t ++ n :: L.drop t) = intCells (L.take t) ++ [.int .i64 (n : Int)] ++ intCells (L.drop t) := by simp [intCells]
                      refine ⟨?_, ⟨fun h => ?_, fun h => ?_⟩⟩
                      · rw [e1, e2]
                        have h3 := owns_mono HO3.out hbl.out.size
                        first
                          | exact h3
                          | (have hz : L.length - t = 0 := by have hte := HTE.out; omega
                             rw [hz] at h3 ⊢
                             exact h3)
                      · simp only [Value.slice.injEq] at h; omega
                      · have := congrArg List.length h; rw [e1] at this; simp at this
              · have hte : t = L.length := by omega
                have b7 : ¬ (t : Int) < (L.length : Int) := by omega
                have hst : ∀ c ∈ L.drop t, n < c := fun c hc => by rw [List.drop_eq_nil_of_le (by omega)] at hc; cases hc
                have HST := Lib.hid hst
                have HTE := Lib.hid hte
                clear hst hte
                by_cases hct : cap2 = t
                · have hct2 : t = cap2 := hct.symm
                  subst hct2
                  go_wp2_with (first
                    | (at_builtin; refine wpList_append_first rfl _ _ 67 rfl wo.heap.size 3 i0 (.int .i64 0) 1 8 Try.underlying67 hi hz0 hz1 hz2 rfl (by decide) wo.heap.size rfl ?a1q6 _ t (intCells (L.take t)) rfl ?a2q6 (int_one _) ?a3q6 ?a4q6 ?a5q6 ?_; rotate_right 1; intro p1 c1 w1 ho1 hg1; have HO1 := Lib.hid ho1; have HG1 := Lib.hid hg1; clear ho1 hg1)
                    | (at_builtin; refine wpList_append_own _ rfl _ _ 67 rfl wo.heap.size 3 i0 (.int .i64 0) 1 8 Try.underlying67 hi hz0 hz1 hz2 rfl (by decide) (.slice p1 t c1) t (intCells (L.take t)) rfl ?b1q6 ⟨w1.heap.size, 0, none⟩ 1 1 [.int .i64 (n : Int)] rfl rfl ?b2q6 ?b3q6 ?b4q6 ?b5q6 ?b6q6 ?_; rotate_right 1; intro v2 w2 ho2 hg2 hn2; obtain ⟨p2, c2, rfl⟩ := owns_shape ho2; have HO2 := Lib.hid ho2; have HG2 := Lib.hid hg2; clear ho2 hg2 hn2)
                    | (at_builtin; refine wpList_append_reads rfl _ _ 67 rfl wo.heap.size 3 i0 (.int .i64 0) 1 8 Try.underlying67 hi hz0 hz1 hz2 rfl (by decide) (.slice p2 (t + 1) c2) (t + 1) (intCells (L.take t) ++ [.int .i64 (n : Int)]) rfl ?e1q6 _ (L.length - t) (intCells (L.drop t)) rfl ?e2q6 (int_one _) ?e4q6 ?e5q6 ?e6q6 ?_; rotate_right 1; intro p3 c3 w3 ho3 hg3; have HO3 := Lib.hid ho3; have HG3 := Lib.hid hg3; clear ho3 hg3))
                  try case a1q6 => exact owns_empty (heap_alloc_new _ _) (Nat.le_refl _)
                  try case a2q6 => exact HP1.out _ (nb_alloc (nb_refl _) _)
                  try case a3q6 => unfold maxLen; omega
                  try case a4q6 => omega
                  try case a5q6 => simp
                  try case b1q6 => exact owns_below HO1.out (below1 _ _)
                  try case b2q6 =>
                    intro j u hu
                    rw [add_lit, Nat.zero_add, cell_of_row _ _ _ _ 3 _ (heap_alloc_new _ _)]
                    simpa using hu
                  try case b3q6 => first | rfl | (intro u hu; rw [List.mem_singleton] at hu; subst hu; rfl) | simp [Value.oneCell']
                  try case b4q6 => unfold maxLen; omega
                  try case b5q6 => omega
                  try case b6q6 => have := HG1.out.size; simp at *; omega
                  try case e1q6 => exact HO2.out
                  try case e2q6 => (have hte := HTE.out); (have hz : L.length - t = 0 := by omega); (have hdz : L.drop t = [] := List.drop_eq_nil_of_le (by omega)); rw [hdz]; (try rw [hz]); exact ⟨rfl, .inr ⟨_, _, rfl, Nat.zero_le _, by unfold maxLen; omega, fun j u hu => by cases hu⟩⟩
                  try case e4q6 => unfold maxLen; omega
                  try case e5q6 => omega
                  try case e6q6 => have := HG1.out.size; have := HG2.out.size; simp at *; omega
                  case roundEnd =>
                    have N3 : Below wo.heap.size wo w3 := below_grown (below_grown (nb_alloc (Below.grown (nb_alloc (nb_refl wo) _) HG1.out (by simp) (fun j hj => by have := Option.some.inj hj; omega)) _) (owns_below HO1.out (below1 _ _)) HG2.out) HO2.out HG3.out
                    refine ⟨⟨k + 1, L.take t ++ n :: L.drop t, by omega, by go_num, ?_, ⟨strict_put (by rw [List.take_append_drop]; exact hL.out.1) HA2.out HST.out, fun m => ?_⟩, ?_, below_then hbl.out N3⟩, by simp [intOf]; omega⟩
                    · show _ ≤ _
                      rw [List.length_append, List.length_cons, List.length_take, List.length_drop]
                      have := hLk.out
                      omega
                    · rw [hasN_snoc hlt, HN.out, ← hL.out.2 m]
                      have e : m ∈ L.take t ++ n :: L.drop t ↔ m ∈ L ∨ m = n := by
                        have h1 : m ∈ L ↔ m ∈ L.take t ∨ m ∈ L.drop t := by rw [← List.mem_append, List.take_append_drop]
                        rw [List.mem_append, List.mem_cons, h1]
                        constructor
                        · rintro (h | h | h)
                          · exact .inl (.inl h)
                          · exact .inr h
                          · exact .inl (.inr h)
                        · rintro ((h | h) | h)
                          · exact .inl h
                          · exact .inr (.inr h)
                          · exact .inr (.inl h)
                      rw [e]
                      constructor
                      · rintro (h | h)
                        · exact .inl h
                        · exact .inr (by rw [h])
                      · rintro (h | h)
                        · exact .inl h
                        · exact .inr (Option.some.inj h).symm
                    · have e1 : (L.take t ++ n :: L.drop t).length = t + 1 + (L.length - t) := by rw [List.length_append, List.length_cons, List.length_take, List.length_drop]; omega
                      have e2 : intCells (L.take t ++ n :: L.drop t) = intCells (L.take t) ++ [.int .i64 (n : Int)] ++ intCells (L.drop t) := by simp [intCells]
                      refine ⟨?_, ⟨fun h => ?_, fun h => ?_⟩⟩
                      · rw [e1, e2]
                        have h3 := owns_mono HO3.out hbl.out.size
                        first
                          | exact h3
                          | (have hz : L.length - t = 0 := by have hte := HTE.out; omega
                             rw [hz] at h3 ⊢
                             exact h3)
                      · simp only [Value.slice.injEq] at h; omega
                      · have := congrArg List.length h; rw [e1] at this; simp at this
                · skip
                  go_wp2_with (first
                    | (at_builtin; refine wpList_append_first rfl _ _ 67 rfl wo.heap.size 3 i0 (.int .i64 0) 1 8 Try.underlying67 hi hz0 hz1 hz2 rfl (by decide) wo.heap.size rfl ?a1q7 _ t (intCells (L.take t)) rfl ?a2q7 (int_one _) ?a3q7 ?a4q7 ?a5q7 ?_; rotate_right 1; intro p1 c1 w1 ho1 hg1; have HO1 := Lib.hid ho1; have HG1 := Lib.hid hg1; clear ho1 hg1)
                    | (at_builtin; refine wpList_append_own _ rfl _ _ 67 rfl wo.heap.size 3 i0 (.int .i64 0) 1 8 Try.underlying67 hi hz0 hz1 hz2 rfl (by decide) (.slice p1 t c1) t (intCells (L.take t)) rfl ?b1q7 ⟨w1.heap.size, 0, none⟩ 1 1 [.int .i64 (n : Int)] rfl rfl ?b2q7 ?b3q7 ?b4q7 ?b5q7 ?b6q7 ?_; rotate_right 1; intro v2 w2 ho2 hg2 hn2; obtain ⟨p2, c2, rfl⟩ := owns_shape ho2; have HO2 := Lib.hid ho2; have HG2 := Lib.hid hg2; clear ho2 hg2 hn2)
                    | (at_builtin; refine wpList_append_reads rfl _ _ 67 rfl wo.heap.size 3 i0 (.int .i64 0) 1 8 Try.underlying67 hi hz0 hz1 hz2 rfl (by decide) (.slice p2 (t + 1) c2) (t + 1) (intCells (L.take t) ++ [.int .i64 (n : Int)]) rfl ?e1q7 _ (L.length - t) (intCells (L.drop t)) rfl ?e2q7 (int_one _) ?e4q7 ?e5q7 ?e6q7 ?_; rotate_right 1; intro p3 c3 w3 ho3 hg3; have HO3 := Lib.hid ho3; have HG3 := Lib.hid hg3; clear ho3 hg3))
                  try case a1q7 => exact owns_empty (heap_alloc_new _ _) (Nat.le_refl _)
                  try case a2q7 => exact HP1.out _ (nb_alloc (nb_refl _) _)
                  try case a3q7 => unfold maxLen; omega
                  try case a4q7 => omega
                  try case a5q7 => simp
                  try case b1q7 => exact owns_below HO1.out (below1 _ _)
                  try case b2q7 =>
                    intro j u hu
                    rw [add_lit, Nat.zero_add, cell_of_row _ _ _ _ 3 _ (heap_alloc_new _ _)]
                    simpa using hu
                  try case b3q7 => first | rfl | (intro u hu; rw [List.mem_singleton] at hu; subst hu; rfl) | simp [Value.oneCell']
                  try case b4q7 => unfold maxLen; omega
                  try case b5q7 => omega
                  try case b6q7 => have := HG1.out.size; simp at *; omega
                  try case e1q7 => exact HO2.out
                  try case e2q7 => exact HP2.out _ (below_grown (nb_alloc (Below.grown (nb_alloc (nb_refl wo) _) HG1.out (by simp) (fun j hj => by have := Option.some.inj hj; omega)) _) (owns_below HO1.out (below1 _ _)) HG2.out)
                  try case e4q7 => unfold maxLen; omega
                  try case e5q7 => omega
                  try case e6q7 => have := HG1.out.size; have := HG2.out.size; simp at *; omega
                  case roundEnd =>
                    have N3 : Below wo.heap.size wo w3 := below_grown (below_grown (nb_alloc (Below.grown (nb_alloc (nb_refl wo) _) HG1.out (by simp) (fun j hj => by have := Option.some.inj hj; omega)) _) (owns_below HO1.out (below1 _ _)) HG2.out) HO2.out HG3.out
                    refine ⟨⟨k + 1, L.take t ++ n :: L.drop t, by omega, by go_num, ?_, ⟨strict_put (by rw [List.take_append_drop]; exact hL.out.1) HA2.out HST.out, fun m => ?_⟩, ?_, below_then hbl.out N3⟩, by simp [intOf]; omega⟩
                    · show _ ≤ _
                      rw [List.length_append, List.length_cons, List.length_take, List.length_drop]
                      have := hLk.out
                      omega
                    · rw [hasN_snoc hlt, HN.out, ← hL.out.2 m]
                      have e : m ∈ L.take t ++ n :: L.drop t ↔ m ∈ L ∨ m = n := by
                        have h1 : m ∈ L ↔ m ∈ L.take t ∨ m ∈ L.drop t := by rw [← List.mem_append, List.take_append_drop]
                        rw [List.mem_append, List.mem_cons, h1]
                        constructor
                        · rintro (h | h | h)
                          · exact .inl (.inl h)
                          · exact .inr h
                          · exact .inl (.inr h)
                        · rintro ((h | h) | h)
                          · exact .inl h
                          · exact .inr (.inr h)
                          · exact .inr (.inl h)
                      rw [e]
                      constructor
                      · rintro (h | h)
                        · exact .inl h
                        · exact .inr (by rw [h])
                      · rintro (h | h)
                        · exact .inl h
                        · exact .inr (Option.some.inj h).symm
                    · have e1 : (L.take t ++ n :: L.drop t).length = t + 1 + (L.length - t) := by rw [List.length_append, List.length_cons, List.length_take, List.length_drop]; omega
                      have e2 : intCells (L.take t ++ n :: L.drop t) = intCells (L.take t) ++ [.int .i64 (n : Int)] ++ intCells (L.drop t) := by simp [intCells]
                      refine ⟨?_, ⟨fun h => ?_, fun h => ?_⟩⟩
                      · rw [e1, e2]
                        have h3 := owns_mono HO3.out hbl.out.size
                        first
                          | exact h3
                          | (have hz : L.length - t = 0 := by have hte := HTE.out; omega
                             rw [hz] at h3 ⊢
                             exact h3)
                      · simp only [Value.slice.injEq] at h; omega
                      · have := congrArg List.length h; rw [e1] at this; simp at this
    · obtain rfl : k = l.length := by omega
      have hfin : ∀ n, n ∈ L ↔ hasN p l n := fun n => by
        have h0 := hL.out.2 n
        rwa [List.take_length] at h0
      have HFIN := Lib.hid hfin
      clear hfin
      go_wp2_with fail
      go_ret
      exact ⟨_, L, rfl, ⟨owns_mono hown.out.1 (by omega), hown.out.2⟩, hL.out.1, HFIN.out, HBW.out⟩
end Go.Proofs.Ytkecjopojnllnaa
