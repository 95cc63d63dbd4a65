/- Insertion, plain and walked. -/
import Derived.Test.YtkecjopojnllnaaE
namespace Go.Proofs.Ytkecjopojnllnaa
open Go.RowKit Go.Deep Go.Joins

/-- The same segments of each number, in the same order. -/
def Keeps (X Y : List Sg) : Prop := Y.length = X.length ∧ ∀ k : Int, Y.filter (fun s => s.num == k) = X.filter (fun s => s.num == k)
theorem Keeps.refl (X : List Sg) : Keeps X X := ⟨rfl, fun _ => rfl⟩
theorem Keeps.trans {X Y Z : List Sg} (h : Keeps X Y) (k : Keeps Y Z) : Keeps X Z := ⟨k.1.trans h.1, fun j => (k.2 j).trans (h.2 j)⟩
theorem Keeps.append {X Y X' Y' : List Sg} (h : Keeps X Y) (k : Keeps X' Y') : Keeps (X ++ X') (Y ++ Y') := ⟨by rw [List.length_append, List.length_append, h.1, k.1], fun j => by rw [List.filter_append, List.filter_append, h.2, k.2]⟩
theorem Keeps.mem {X Y : List Sg} (h : Keeps X Y) {s : Sg} (hs : s ∈ Y) : s ∈ X := by
  have h1 : s ∈ Y.filter (fun t => t.num == s.num) := List.mem_filter.2 ⟨hs, by simp⟩
  rw [h.2] at h1
  exact (List.mem_filter.1 h1).1
/-- Two blocks that share no number are exchanged. -/
theorem Keeps.swap {X Y : List Sg} (h : ∀ x ∈ X, ∀ y ∈ Y, x.num ≠ y.num) : Keeps (X ++ Y) (Y ++ X) := by
  refine ⟨by simp [Nat.add_comm], fun k => ?_⟩
  rw [List.filter_append, List.filter_append]
  by_cases hx : X.filter (fun s => s.num == k) = []
  · rw [hx]; simp
  · obtain ⟨x, hx'⟩ := List.exists_mem_of_ne_nil _ hx
    have hk := List.mem_filter.1 hx'
    have hy : Y.filter (fun s => s.num == k) = [] := by
      rw [List.filter_eq_nil_iff]
      intro y hy e
      have e1 : x.num = k := by simpa using hk.2
      have e2 : y.num = k := by simpa using e
      exact h x hk.1 y hy (e1.trans e2.symm)
    rw [hy]; simp
def Rises (X : List Sg) : Prop := X.Pairwise (fun s t => s.num ≤ t.num)
/-- One more, put behind all that aren't greater. -/
theorem rises_put {A B : List Sg} {z : Sg} (h : Rises (A ++ B)) (hA : ∀ a ∈ A, a.num ≤ z.num) (hB : ∀ b ∈ B, z.num < b.num) : Rises (A ++ z :: B) := by
  unfold Rises at *
  rw [List.pairwise_append] at h ⊢
  obtain ⟨h1, h2, h3⟩ := h
  refine ⟨h1, List.pairwise_cons.2 ⟨fun b hb => Int.le_of_lt (hB b hb), h2⟩, fun a ha b hb => ?_⟩
  rcases List.mem_cons.1 hb with rfl | hb
  · exact hA a ha
  · exact h3 a ha b hb
theorem keeps_put {A B : List Sg} {z : Sg} (hB : ∀ b ∈ B, z.num < b.num) : Keeps (A ++ B ++ [z]) (A ++ z :: B) := by
  have h : Keeps (B ++ [z]) ([z] ++ B) := Keeps.swap fun x hx y hy => by
    rw [List.mem_singleton] at hy
    subst hy
    have := hB x hx
    omega
  rw [List.append_assoc]
  exact (Keeps.refl A).append h
theorem last_most {A : List Sg} {a : Sg} (h : Rises (A ++ [a])) : ∀ x ∈ A ++ [a], x.num ≤ a.num := by
  intro x hx
  rcases List.mem_append.1 hx with hx | hx
  · exact (List.pairwise_append.1 h).2.2 x hx a (by simp)
  · rw [List.mem_singleton] at hx; subst hx; exact Int.le_refl _

theorem keeps_next {X X1 X3 A C : List Sg} {z : Sg} {a k : Nat} (h3 : z :: X3 = X.drop (k - a)) (h2 : Keeps (X.take (k - a)) X1) (h1 : X1 = A ++ C) (hC : ∀ c ∈ C, z.num < c.num) (hak : a < k) : Keeps (X.take (k + 1 - a)) (A ++ z :: C) := by
  have hlt : k - a < X.length := by
    have := congrArg List.length h3
    rw [List.length_cons, List.length_drop] at this
    omega
  have hz : X[k - a] = z := by
    have := List.drop_eq_getElem_cons hlt
    rw [← h3] at this
    exact (List.cons.inj this).1.symm
  have ht : X.take (k + 1 - a) = X.take (k - a) ++ [z] := by
    rw [show k + 1 - a = (k - a) + 1 by omega, List.take_succ_eq_append_getElem hlt, hz]
  rw [ht]
  refine (h2.append (Keeps.refl [z])).trans ?_
  rw [h1]
  exact keeps_put hC
theorem drop_next {X X3 : List Sg} {z : Sg} {a k : Nat} (h3 : z :: X3 = X.drop (k - a)) (hak : a < k) : X3 = X.drop (k + 1 - a) := by
  rw [show k + 1 - a = (k - a) + 1 by omega, ← List.drop_drop, ← h3]
  rfl

abbrev cmpV : Value := .func (.func 51) #[] #[]

/-- Two neighbours of the row, as its cells. -/
theorem OwnS.two {w : World} {B g n cap : Nat} {A C : List Sg} {x y : Sg} (h : OwnS w B g n cap (A ++ x :: y :: C)) (j : Nat) (hj : A.length = j) :
    (w.cell? ⟨g, j * 4, none⟩ = some (.int .i64 x.num) ∧ w.cell? ⟨g, j * 4 + 1, none⟩ = some (.string x.name) ∧ w.cell? ⟨g, j * 4 + 2, none⟩ = some (.string x.safe) ∧ w.cell? ⟨g, j * 4 + 3, none⟩ = some x.ov) ∧
    (w.cell? ⟨g, (j + 1) * 4, none⟩ = some (.int .i64 y.num) ∧ w.cell? ⟨g, (j + 1) * 4 + 1, none⟩ = some (.string y.name) ∧ w.cell? ⟨g, (j + 1) * 4 + 2, none⟩ = some (.string y.safe) ∧ w.cell? ⟨g, (j + 1) * 4 + 3, none⟩ = some y.ov) := by
  subst hj
  have h1 := h.at A.length (by simp)
  have h2 := h.at (A.length + 1) (by simp)
  have e1 : (A ++ x :: y :: C)[A.length]'(by simp) = x := by simp
  have e2 : (A ++ x :: y :: C)[A.length + 1]'(by simp) = y := by simp
  rw [e1] at h1
  rw [e2] at h2
  exact ⟨h1, h2⟩
theorem OwnS.exch {w : World} {B g n cap : Nat} {A C : List Sg} {x y : Sg} (h : OwnS w B g n cap (A ++ x :: y :: C)) (j : Nat) (hj : A.length = j) :
    OwnS ((((((((w.setCell ⟨g, j * 4, none⟩ (.int .i64 y.num)).setCell ⟨g, j * 4 + 1, none⟩ (.string y.name)).setCell ⟨g, j * 4 + 2, none⟩ (.string y.safe)).setCell ⟨g, j * 4 + 3, none⟩ y.ov).setCell ⟨g, (j + 1) * 4, none⟩ (.int .i64 x.num)).setCell ⟨g, (j + 1) * 4 + 1, none⟩ (.string x.name)).setCell ⟨g, (j + 1) * 4 + 2, none⟩ (.string x.safe)).setCell ⟨g, (j + 1) * 4 + 3, none⟩ x.ov) B g n cap (A ++ y :: x :: C) := by
  subst hj
  have s1 := h.store (k := A.length) (by simp) y
  have s2 := s1.store (k := A.length + 1) (by simp) x
  have hsw := swap_lists A [] C x y
  simp only [List.nil_append, List.length_nil, Nat.add_zero] at hsw
  rw [hsw] at s2
  exact s2
theorem OwnS.exch2 {w : World} {B g n cap : Nat} {A C : List Sg} {x y : Sg} (h : OwnS w B g n cap (A ++ x :: y :: C)) (j : Nat) (hj : A.length = j) :
    OwnS ((((((((w.setCell ⟨g, (j + 1) * 4, none⟩ (.int .i64 x.num)).setCell ⟨g, (j + 1) * 4 + 1, none⟩ (.string x.name)).setCell ⟨g, (j + 1) * 4 + 2, none⟩ (.string x.safe)).setCell ⟨g, (j + 1) * 4 + 3, none⟩ x.ov).setCell ⟨g, j * 4, none⟩ (.int .i64 y.num)).setCell ⟨g, j * 4 + 1, none⟩ (.string y.name)).setCell ⟨g, j * 4 + 2, none⟩ (.string y.safe)).setCell ⟨g, j * 4 + 3, none⟩ y.ov) B g n cap (A ++ y :: x :: C) := by
  subst hj
  have s1 := h.store (k := A.length + 1) (by simp) x
  have s2 := s1.store (k := A.length) (by simp) y
  have e : ((A ++ x :: y :: C).set (A.length + 1) x).set A.length y = A ++ y :: x :: C := by
    rw [List.set_append_right (h := by omega), List.set_append_right (h := Nat.le_refl _)]
    simp
  rw [e] at s2
  exact s2

set_option maxRecDepth 100000 in
set_option maxHeartbeats 1000000 in
theorem insertion_any (P X S : List Sg) (B g n cap a b : Nat) (w : World) (h : OwnS w B g n cap (P ++ X ++ S)) (hn : n ≤ 4611686018427387904) (ha : P.length = a) (hb : a + X.length = b) :
    Calls Try.prog 77 #[.slice (some ⟨g, 0, none⟩) n cap, .int .i64 a, .int .i64 b, cmpV] w fun e w' => e = .returned (.tuple #[]) ∧ (∃ X', Rises X' ∧ Keeps X X' ∧ OwnS w' B g n cap (P ++ X' ++ S)) ∧ w.grownBy w' (some g) := by
  have H := Lib.hid h
  have hn1 := h.1
  simp only [List.length_append] at hn1
  clear h
  have w1 : IntKind.i64.wrap ((a : Int) + 1) = (a : Int) + 1 := IntWalk.i64_in _ (by omega)
  have hbn : b ≤ n := by omega
  have hab : a ≤ b := by omega
  have HA := Lib.hid ha
  have HBB := Lib.hid hb
  clear ha hb hn1
  go_enter Try.func77, Try.ntmps77
  go_wp2_with fail
  go_loopw [8] (fun i wr => ∃ (k : Nat) (X1 X2 : List Sg), i = .int .i64 (k : Int) ∧ a < k ∧ k ≤ b + 1 ∧ Hid (Rises X1 ∧ Keeps (X.take (k - a)) X1 ∧ X2 = X.drop (k - a)) ∧ Hid (OwnS wr B g n cap (P ++ X1 ++ X2 ++ S)) ∧ Hid (w.grownBy wr (some g))) (fun i _ => b - (intOf i).toNat)
  case atStart =>
    refine ⟨a + 1, X.take 1, X.drop 1, by go_num, by omega, by omega, ⟨?_, ?_, ?_⟩, ?_, ⟨rfl, rfl, rfl, Nat.le_refl _, fun _ _ _ => rfl⟩⟩
    · unfold Rises
      cases X with
      | nil => simp
      | cons x X => simp
    · rw [show a + 1 - a = 1 by omega]; exact Keeps.refl _
    · rw [show a + 1 - a = 1 by omega]
    · show OwnS _ _ _ _ _ _
      rw [List.append_assoc P, List.take_append_drop]
      exact H.out
  case round =>
    obtain ⟨k, X1, X2, rfl, hak, hkb, hd, how, hgr⟩ := hrel
    obtain ⟨wo, hwo⟩ : ∃ wo, wo = wr := ⟨_, rfl⟩
    subst hwo
    by_cases hlt : k < b
    · obtain ⟨hd1, hd2, hd3⟩ := hd.out
      have hl1 : X1.length = k - a := by rw [hd2.1, List.length_take]; have := HBB.out; omega
      obtain ⟨z, X3, rfl⟩ : ∃ z X3, X2 = z :: X3 := by
        cases X2 with
        | nil => have := congrArg List.length hd3; rw [List.length_nil, List.length_drop] at this; have := HBB.out; omega
        | cons z X3 => exact ⟨z, X3, rfl⟩
      have HD3 := Lib.hid hd3
      have HL1 := Lib.hid hl1
      clear hd1 hd2 hd3 hl1
      go_wp2_with fail
      go_loopw [9] (fun j wr => ∃ (m : Nat) (A C : List Sg), j = .int .i64 (m : Int) ∧ a ≤ m ∧ m ≤ k ∧ Hid (A.length = m - a ∧ X1 = A ++ C ∧ ∀ c ∈ C, z.num < c.num) ∧ Hid (OwnS wr B g n cap (P ++ A ++ z :: (C ++ X3 ++ S))) ∧ Hid (w.grownBy wr (some g))) (fun j _ => (intOf j).toNat)
      case atStart =>
        refine ⟨k, X1, [], rfl, by omega, Nat.le_refl _, ⟨HL1.out, by simp, fun c hc => by cases hc⟩, ?_, hgr.out⟩
        show OwnS _ _ _ _ _ _
        simpa using how.out
      case round =>
        obtain ⟨m, A, C, rfl, ham, hmk, hi, how2, hgr2⟩ := hrel
        by_cases hja : a < m
        · obtain ⟨j, rfl⟩ : ∃ j, m = j + 1 := ⟨m - 1, by omega⟩
          obtain ⟨hi1, hi2, hi3⟩ := hi.out
          obtain ⟨A', y, rfl⟩ : ∃ A' y, A = A' ++ [y] := ⟨_, _, (List.dropLast_concat_getLast (l := A) (by intro e; rw [e] at hi1; simp at hi1; omega)).symm⟩
          rw [List.length_append, List.length_singleton] at hi1
          have e0 : P ++ (A' ++ [y]) ++ z :: (C ++ X3 ++ S) = (P ++ A') ++ y :: z :: (C ++ X3 ++ S) := by simp
          have hPA : (P ++ A').length = j := by rw [List.length_append, HA.out]; omega
          have how3 : OwnS wr B g n cap ((P ++ A') ++ y :: z :: (C ++ X3 ++ S)) := by rw [← e0]; exact how2.out
          have HW3 := Lib.hid how3
          have HPA := Lib.hid hPA
          have HI := hi
          obtain ⟨⟨c0, c1, c2, c3⟩, ⟨d0, d1, d2, d3⟩⟩ := how3.two j hPA
          have lg := how3.lt.2
          have hnj : j + 1 < n := by have := how3.1; simp only [List.length_append, List.length_cons] at this; rw [List.length_append] at hPA; omega
          have b1 : (a : Int) < (j : Int) + 1 := by omega
          have b2 : (j : Int) + 1 < (n : Int) := by omega
          have b3 : (j : Int) < (n : Int) := by omega
          have b4 : (0 : Int) ≤ (j : Int) + 1 := by omega
          have b5 : ((j : Int) + 1).toNat = j + 1 := by omega
          have w2 : IntKind.i64.wrap ((j : Int) + 1 - 1) = (j : Int) := by rw [show (j : Int) + 1 - 1 = (j : Int) by omega]; exact IntWalk.i64_in _ (by omega)
          have w3 : IntKind.i64.wrap (j : Int) = (j : Int) := IntWalk.i64_in _ (by omega)
          have hS : ∀ W, Below wr.heap.size wr W → W.cell? ⟨g, j * 4, none⟩ = some (.int .i64 y.num) ∧ W.cell? ⟨g, j * 4 + 1, none⟩ = some (.string y.name) ∧ W.cell? ⟨g, j * 4 + 2, none⟩ = some (.string y.safe) ∧ W.cell? ⟨g, j * 4 + 3, none⟩ = some y.ov ∧
              W.cell? ⟨g, (j + 1) * 4, none⟩ = some (.int .i64 z.num) ∧ W.cell? ⟨g, (j + 1) * 4 + 1, none⟩ = some (.string z.name) ∧ W.cell? ⟨g, (j + 1) * 4 + 2, none⟩ = some (.string z.safe) ∧ W.cell? ⟨g, (j + 1) * 4 + 3, none⟩ = some z.ov :=
            fun W hW => ⟨below_cell hW c0, below_cell hW c1, below_cell hW c2, below_cell hW c3, below_cell hW d0, below_cell hW d1, below_cell hW d2, below_cell hW d3⟩
          have HS := Lib.hid hS
          clear hS how3 hPA e0 hi1 hi2 hi3
          go_wp2_with fail
          go_region_held3 (fun W => W.cell? ⟨g, j * 4, none⟩ = some (.int .i64 y.num) ∧ W.cell? ⟨g, j * 4 + 1, none⟩ = some (.string y.name) ∧ W.cell? ⟨g, j * 4 + 2, none⟩ = some (.string y.safe) ∧ W.cell? ⟨g, j * 4 + 3, none⟩ = some y.ov ∧
              W.cell? ⟨g, (j + 1) * 4, none⟩ = some (.int .i64 z.num) ∧ W.cell? ⟨g, (j + 1) * 4 + 1, none⟩ = some (.string z.name) ∧ W.cell? ⟨g, (j + 1) * 4 + 2, none⟩ = some (.string z.safe) ∧ W.cell? ⟨g, (j + 1) * 4 + 3, none⟩ = some z.ov)
            (first | exact HS.out _ (nb_refl _) | exact HS.out _ (nb_drew (nb_refl _)) | exact HS.out _ N2)
            (first | (go_at_call 51; refine (cmp_any z y _).mono ?_; rintro e w2 ⟨rfl, hb2⟩; have N2 := below_then (nb_drew (nb_refl wr)) hb2) | fail)
          have HW2 := Lib.hid (HW3.out.below N2)
          have HG2 := Lib.hid (grown_trans hgr2.out (below_grownBy (row := some g) N2))
          clear c0 c1 c2 c3 d0 d1 d2 d3 lg HS N2 hb2
          by_cases hc : z.num < y.num
          · have hcl : cmpI z.num y.num < 0 := by unfold cmpI; rw [if_pos hc]; decide
            obtain ⟨⟨c0, c1, c2, c3⟩, ⟨d0, d1, d2, d3⟩⟩ := HW2.out.two j HPA.out
            have f0 := HW2.out.fz (j * 4)
            have f1 := HW2.out.fz (j * 4 + 1)
            have f2 := HW2.out.fz (j * 4 + 2)
            have f3 := HW2.out.fz (j * 4 + 3)
            have e0 := HW2.out.fz ((j + 1) * 4)
            have e1 := HW2.out.fz ((j + 1) * 4 + 1)
            have e2 := HW2.out.fz ((j + 1) * 4 + 2)
            have e3 := HW2.out.fz ((j + 1) * 4 + 3)
            have lg2 := HW2.out.lt.2
            clear how2 hgr2 how hgr
            go_wp2_with fail
            go_region
            have s2 := HW2.out.exch2 j HPA.out
            have s3 := grown8 (w := w) (g := g) HG2.out ((j + 1) * 4) ((j + 1) * 4 + 1) ((j + 1) * 4 + 2) ((j + 1) * 4 + 3) (j * 4) (j * 4 + 1) (j * 4 + 2) (j * 4 + 3) (.int .i64 y.num) (.string y.name) (.string y.safe) y.ov (.int .i64 z.num) (.string z.name) (.string z.safe) z.ov
            refine round_end s2 s3 ?_
            clear s2 s3 c0 c1 c2 c3 d0 d1 d2 d3 f0 f1 f2 f3 e0 e1 e2 e3 lg2 HW2 HG2
            intro W5 h1 h2
            have H1 := Lib.hid h1
            have H2 := Lib.hid h2
            clear h1 h2
            go_wp2_with fail
            go_roundw
            case rel =>
              obtain ⟨hi1, hi2, hi3⟩ := HI.out
              rw [List.length_append, List.length_singleton] at hi1
              refine ⟨j, A', y :: C, by go_num, by omega, by omega, ⟨by omega, by rw [hi2]; simp, fun c hcm => ?_⟩, ?_, H2.out⟩
              · rcases List.mem_cons.1 hcm with rfl | hcm
                · exact hc
                · exact hi3 c hcm
              · have e : P ++ A' ++ z :: (y :: C ++ X3 ++ S) = (P ++ A') ++ z :: y :: (C ++ X3 ++ S) := by simp
                show OwnS _ _ _ _ _ _
                rw [e]
                exact H1.out
            case measure => simp [intOf]
          · have hcl : ¬ cmpI z.num y.num < 0 := by unfold cmpI; rw [if_neg hc]; split <;> decide
            clear how2 hgr2 how hgr
            go_wp2_with fail
            go_roundw
            case rel =>
              obtain ⟨hi1, hi2, hi3⟩ := HI.out
              obtain ⟨hd1, hd2, _⟩ := hd.out
              have hr : Rises ((A' ++ [y]) ++ C) := hi2 ▸ hd1
              have hA : ∀ x ∈ A' ++ [y], x.num ≤ z.num := fun x hx => by
                have := last_most (List.pairwise_append.1 hr).1 x hx
                omega
              refine ⟨k + 1, (A' ++ [y]) ++ z :: C, X3, by go_num, by omega, by omega, ⟨rises_put hr hA hi3, ?_, ?_⟩, ?_, HG2.out⟩
              · exact keeps_next HD3.out hd2 hi2 hi3 hak
              · exact drop_next HD3.out hak
              · have e : P ++ (A' ++ [y] ++ z :: C) ++ X3 ++ S = (P ++ A') ++ y :: z :: (C ++ X3 ++ S) := by simp
                show OwnS _ _ _ _ _ _
                rw [e]
                exact HW2.out
            case measure => simp [intOf]; omega
        · have hja2 : ¬ (a : Int) < (m : Int) := by omega
          have HI := hi
          clear how hgr
          go_wp2_with fail
          go_region
          all_goals
            go_wp2_with fail
            go_roundw
            case rel =>
              obtain ⟨hi1, hi2, hi3⟩ := HI.out
              obtain ⟨hd1, hd2, _⟩ := hd.out
              have hA0 : A = [] := List.eq_nil_of_length_eq_zero (by omega)
              subst hA0
              have hr : Rises ([] ++ C) := hi2 ▸ hd1
              refine ⟨k + 1, [] ++ z :: C, X3, by go_num, by omega, by omega, ⟨rises_put hr (fun x hx => by cases hx) hi3, ?_, ?_⟩, ?_, grown_drew hgr2.out⟩
              · exact keeps_next HD3.out hd2 hi2 hi3 hak
              · exact drop_next HD3.out hak
              · have e : P ++ ([] ++ z :: C) ++ X3 ++ S = P ++ [] ++ z :: (C ++ X3 ++ S) := by simp
                show OwnS _ _ _ _ _ _
                rw [e]
                exact how2.out.drew
            case measure => simp [intOf]; omega
    · obtain ⟨hd1, hd2, hd3⟩ := hd.out
      have hX2 : X2 = [] := by rw [hd3, List.drop_eq_nil_iff]; have := HBB.out; omega
      have hX1 : Keeps X X1 := by rw [List.take_of_length_le (by have := HBB.out; omega)] at hd2; exact hd2
      have hfin := how.out
      rw [hX2, List.append_nil] at hfin
      have HF := Lib.hid hfin
      have HX := Lib.hid hX1
      clear hfin hX1 hX2 how hd1 hd2 hd3
      go_wp2_with fail
      go_end0
      exact ⟨rfl, ⟨X1, hd.out.1, HX.out, HF.out⟩, hgr.out⟩
end Go.Proofs.Ytkecjopojnllnaa
