/- CsrParts walked. -/
import Derived.Test.YthchakfffenoiaaKA
namespace Go.Proofs.Ythchakfffenoiaa
open Go.RowKit Go.Deep Go.Joins
/-- The three numbers of the middle mode's parts. -/
def numAt (j : Nat) : Int := if j = 0 then 256 else if j = 1 then 260 else 324
/-- The law's memory: the box of the registers and the row of numbers behind it. -/
structure St (W w : World) (z : Nat) (c : Reg) : Prop where
  below : Below W.heap.size W w
  box : Box w W.heap.size c
  nums : w.heap[z]? = some (.cells #[.int .i64 256, .int .i64 260, .int .i64 324] 33)
  old : W.heap.size < z
theorem St.lt {W w : World} {z : Nat} {c : Reg} (h : St W w z c) : z < w.heap.size := (Array.getElem?_eq_some_iff.1 h.nums).1
theorem St.next {W w w' : World} {z : Nat} {c : Reg} (h : St W w z c) (k : Below w.heap.size w w') : St W w' z c :=
  ⟨below_then h.below (Nat.le_refl _) k, h.box.next k, (k.block z h.lt).trans h.nums, h.old⟩
theorem St.drew {W w : World} {z : Nat} {c : Reg} (h : St W w z c) : St W w.drew z c := h.next (Below.refl _ _).drew
theorem St.alloc {W w : World} {z : Nat} {c : Reg} (h : St W w z c) (o : Obj) : St W (w.alloc o) z c := h.next ((Below.refl _ _).alloc (Nat.le_refl _) o)
theorem St.setCell {W w : World} {z b : Nat} {c : Reg} (h : St W w z c) (hb : z < b) (i : Nat) (u : Value) : St W (w.setCell ⟨b, i, none⟩ u) z c :=
  ⟨h.below.setCell (by have := h.old; show W.heap.size ≤ b; omega) u, (Below.heap_setCell w ⟨b, i, none⟩ u W.heap.size (by have := h.old; show W.heap.size ≠ b; omega)).trans h.box, (Below.heap_setCell w ⟨b, i, none⟩ u z (by show z ≠ b; omega)).trans h.nums, h.old⟩
theorem St.cells {W w : World} {z : Nat} {c : Reg} (h : St W w z c) (j : Nat) (hj : j < 3) : w.cell? ⟨W.heap.size, 0, none⟩ = some (.int .u64 c.s0) ∧ w.cell? ⟨W.heap.size, 1, none⟩ = some (.int .u64 c.s1) ∧ w.cell? ⟨W.heap.size, 2, none⟩ = some (.int .u64 c.s2) ∧ w.cell? ⟨W.heap.size, 3, none⟩ = some (.int .u64 c.s3) ∧ w.cell? ⟨W.heap.size, 4, none⟩ = some (.int .u64 c.s4) ∧ w.cell? ⟨W.heap.size, 5, none⟩ = some (.int .u64 c.s5) ∧ w.cell? ⟨W.heap.size, 6, none⟩ = some (.int .u64 c.s6) ∧ w.cell? ⟨W.heap.size, 7, none⟩ = some (.int .u64 c.s7) ∧ w.cell? ⟨W.heap.size, 8, none⟩ = some (.int .u64 c.s8) ∧ w.cell? ⟨W.heap.size, 9, none⟩ = some (.int .u64 c.s9) ∧ w.cell? ⟨W.heap.size, 10, none⟩ = some (.int .u64 c.s10) ∧ w.cell? ⟨W.heap.size, 11, none⟩ = some (.int .u64 c.s11) ∧ w.cell? ⟨W.heap.size, 12, none⟩ = some (.int .u64 c.s12) ∧ w.cell? ⟨W.heap.size, 13, none⟩ = some (.int .u64 c.s13) ∧ w.cell? ⟨W.heap.size, 14, none⟩ = some (.int .u64 c.s14) ∧ w.cell? ⟨W.heap.size, 15, none⟩ = some (.int .u64 c.s15) ∧ w.cell? ⟨z, j, none⟩ = some (.int .i64 (numAt j)) := by
  obtain ⟨a0, a1, a2, a3, a4, a5, a6, a7, a8, a9, a10, a11, a12, a13, a14, a15⟩ := h.box.all
  refine ⟨a0, a1, a2, a3, a4, a5, a6, a7, a8, a9, a10, a11, a12, a13, a14, a15, ?_⟩
  rw [cell_of_row w z j _ 33 (0, 0) h.nums]
  match j, hj with
  | 0, _ => rfl
  | 1, _ => rfl
  | 2, _ => rfl
abbrev zeroR : Reg := (⟨0, 0, 0, 0, 0, 0, 0, 0, 0, 0, 0, 0, 0, 0, 0, 0⟩ : Reg)
theorem St.setRow {W w : World} {z b : Nat} {c : Reg} (h : St W w z c) (hb : z < b) (cs : Array Value) : St W (w.setRow b cs) z c :=
  ⟨below_setRow h.below (by have := h.old; omega) cs, (setRow_other w b W.heap.size cs (by have := h.old; omega)).trans h.box, (setRow_other w b z cs (by omega)).trans h.nums, h.old⟩
theorem zero_next {w w' : World} (k : Below (w.alloc zeroO).drew.heap.size (w.alloc zeroO).drew w') : w'.heap[w.heap.size]? = some zeroO :=
  (k.block w.heap.size (by show w.heap.size < (w.alloc zeroO).heap.size; simp)).trans (heap_alloc_last w zeroO)
/-- What a part's write turns: nothing, or just one field, and then reading the part tells it. -/
def Differ (c d : Reg) (x y : Int) : Prop := (c = d ∧ x = y) ∨ ((x == y) = false ∧ ((∃ e, d = (⟨e, c.s1, c.s2, c.s3, c.s4, c.s5, c.s6, c.s7, c.s8, c.s9, c.s10, c.s11, c.s12, c.s13, c.s14, c.s15⟩ : Reg) ∧ (e == c.s0) = false) ∨ (∃ e, d = (⟨c.s0, c.s1, c.s2, e, c.s4, c.s5, c.s6, c.s7, c.s8, c.s9, c.s10, c.s11, c.s12, c.s13, c.s14, c.s15⟩ : Reg) ∧ (e == c.s3) = false) ∨ (∃ e, d = (⟨c.s0, c.s1, c.s2, c.s3, e, c.s5, c.s6, c.s7, c.s8, c.s9, c.s10, c.s11, c.s12, c.s13, c.s14, c.s15⟩ : Reg) ∧ (e == c.s4) = false)))
set_option maxHeartbeats 1000000 in
theorem parts_walk (c : Reg) (v : Int) (hall : RowKit.Hid (∀ j : Nat, j < 3 → ∃ (d : Reg) (x y : Int), Writes c 1 (numAt j) v d true ∧ Reads c 1 (numAt j) 0 0 x true ∧ Reads d 1 (numAt j) 0 0 y true ∧ Differ c d x y)) (W : World) : Calls Try.prog 6 #[regV c, .int .u64 v] W fun e W' => e = .returned (.bool true) ∧ Below W.heap.size W W' := by
  go_enter Try.func6, Try.ntmps6
  have B0 := Box.new W c
  have b0 : Below W.heap.size W (W.alloc (boxO c)) := (Below.refl _ _).alloc (Nat.le_refl _) _
  go_upto_region 4 with (first | (go_at_call 8; (with_reducible refine (awake_any _).mono ?_); rintro e w1 ⟨rfl, k1⟩) | fail)
  have HS := Lib.hid (show St W (w1.alloc (.cells #[.int .i64 256, .int .i64 260, .int .i64 324] 33)) w1.heap.size c from
    ⟨(below_then b0 (Nat.le_refl _) k1).alloc (below_then b0 (Nat.le_refl _) k1).size _, (B0.next k1).alloc _, heap_alloc_last w1 _, (B0.next k1).lt⟩)
  generalize w1.alloc _ = wl at *
  generalize w1.heap.size = z5 at *
  clear k1 b0 B0
  go_wp2_with fail
  go_loopw [6] (fun k wr => ∃ j : Nat, j ≤ 3 ∧ k = .int .i64 j ∧ RowKit.Hid (St W wr z5 c)) (fun k _ => 3 - (intOf k).toNat)
  case atStart => exact ⟨0, by omega, rfl, HS⟩
  case round =>
    clear HS
    obtain ⟨j, hj, rfl, hs⟩ := hrel
    by_cases hlt : j < 3
    · obtain ⟨d, x, y, c13, c11, d11, hdf⟩ := hall.out j hlt
      have hdf := Lib.hid hdf
      have c13 := Lib.hid c13
      have c11 := Lib.hid c11
      have d11 := Lib.hid d11
      have hd3 : decide ((j : Int) < 3) = true := decide_eq_true (by omega)
      go_upto_region 7 with fail
      have hi3 : (j : Int) < 3 := by omega
      go_cut [7, 8] from 20 to 29 (fun s7 s8 wx => ∃ b, s7 = .pointer (some ⟨b, 0, none⟩) ∧ s8 = .bool true ∧ RowKit.Hid (St W wx z5 c ∧ Box wx b d))
      case first =>
        refine wp_region_noPanic ?_
        refine wp_region_held_drew (S := fun w' => St W w' z5 c) (by kernel_rfl) hs.out.drew (fun _ => ?_)
        refine wpAnyH_take (i := 0) (oi := ⟨some 21, .load 24 (.tmp 2), _, _, _, none⟩) (v := ?_) rfl (by kernel_rfl) (by kernel_rfl) (by kernel_rfl) (fun _ _ _ h => h) (Or.inl ⟨by rfl, ?_⟩) (by assumption) ?_
        rotate_left
        · (intro w hSw; obtain ⟨a0, a1, a2, a3, a4, a5, a6, a7, a8, a9, a10, a11, a12, a13, a14, a15, _⟩ := hSw.cells j hlt; go_simp; try with_reducible rfl)
        try simp only [Act.put, List.setIfInBounds_toArray, List.set_cons_zero, List.set_cons_succ]
        refine wpAnyH_take (i := 1) (oi := ⟨some 22, .move (.tmp 6), _, _, _, none⟩) (v := ?_) rfl (by kernel_rfl) (by kernel_rfl) (by kernel_rfl) (fun _ _ _ h => h) (Or.inl ⟨by rfl, ?_⟩) (by assumption) ?_
        rotate_left
        · (intro w hSw; go_simp; try with_reducible rfl)
        try simp only [Act.put, List.setIfInBounds_toArray, List.set_cons_zero, List.set_cons_succ]
        refine wpAnyH_take (i := 2) (oi := ⟨some 23, .indexAddr 33 (.tmp 5) (.tmp 22), _, _, _, none⟩) (v := ?_) rfl (by kernel_rfl) (by kernel_rfl) (by kernel_rfl) (fun _ _ _ h => h) (Or.inl ⟨by rfl, ?_⟩) (by assumption) ?_
        rotate_left
        · (intro w hSw; go_simp; try with_reducible rfl)
        try simp only [Act.put, List.setIfInBounds_toArray, List.set_cons_zero, List.set_cons_succ]
        refine wpAnyH_take (i := 3) (oi := ⟨some 24, .load 3 (.tmp 23), _, _, _, none⟩) (v := ?_) rfl (by kernel_rfl) (by kernel_rfl) (by kernel_rfl) (fun _ _ _ h => h) (Or.inl ⟨by rfl, ?_⟩) (by assumption) ?_
        rotate_left
        · (intro w hSw; have a16 := (hSw.cells j hlt).2.2.2.2.2.2.2.2.2.2.2.2.2.2.2.2; go_simp; try with_reducible rfl)
        try simp only [Act.put, List.setIfInBounds_toArray, List.set_cons_zero, List.set_cons_succ]
        refine wpAnyH_take (i := 4) (oi := ⟨some 25, .move (.tmp 1), _, _, _, none⟩) (v := ?_) rfl (by kernel_rfl) (by kernel_rfl) (by kernel_rfl) (fun _ _ _ h => h) (Or.inl ⟨by rfl, ?_⟩) (by assumption) ?_
        rotate_left
        · (intro w hSw; go_simp; try with_reducible rfl)
        try simp only [Act.put, List.setIfInBounds_toArray, List.set_cons_zero, List.set_cons_succ]
        refine wpAnyH_ready (rs := [5, 9]) (by kernel_rfl) (by simp) ?_
        refine AllReadyH.cons (o := ⟨some 26, .call { callee := .value (.func 13), args := #[.tmp 21, .const (.int .i64 1), .tmp 24, .tmp 25], argTypes := #[24, 3, 3, 22] }, _, _, _, none⟩) rfl (fun K hK => ?_) ?_
        · go_simp
          go_at_call 13
          with_reducible refine (c13.out _).mono ?_
          rintro e w2 ⟨rfl, k2⟩
          refine hK.out _ _ (hs.out.drew.next k2) (fun _ => ?_)
          clear hK K
          try simp only [Act.put, List.setIfInBounds_toArray, List.set_cons_zero, List.set_cons_succ]
          refine wpAnyH_take (i := 6) (oi := ⟨some 20, .move (.tmp 26), _, _, _, none⟩) (v := ?_) rfl (by kernel_rfl) (by kernel_rfl) (by kernel_rfl) (fun _ _ _ h => h) (Or.inl ⟨by rfl, ?_⟩) (by assumption) ?_
          rotate_left
          · (intro w hSw; go_simp; try with_reducible rfl)
          try simp only [Act.put, List.setIfInBounds_toArray, List.set_cons_zero, List.set_cons_succ]
          refine wpAnyH_take (i := 7) (oi := ⟨some 27, .extract (.tmp 20) 0, _, _, _, none⟩) (v := ?_) rfl (by kernel_rfl) (by kernel_rfl) (by kernel_rfl) (fun _ _ _ h => h) (Or.inl ⟨by rfl, ?_⟩) (by assumption) ?_
          rotate_left
          · (intro w hSw; go_simp; try with_reducible rfl)
          try simp only [Act.put, List.setIfInBounds_toArray, List.set_cons_zero, List.set_cons_succ]
          refine wpAnyH_take (i := 8) (oi := ⟨some 28, .extract (.tmp 20) 1, _, _, _, none⟩) (v := ?_) rfl (by kernel_rfl) (by kernel_rfl) (by kernel_rfl) (fun _ _ _ h => h) (Or.inl ⟨by rfl, ?_⟩) (by assumption) ?_
          rotate_left
          · (intro w hSw; go_simp; try with_reducible rfl)
          try simp only [Act.put, List.setIfInBounds_toArray, List.set_cons_zero, List.set_cons_succ]
          refine wpAnyH_ready (rs := [9]) (by kernel_rfl) (by simp) ?_
          refine AllReadyH.cons (o := ⟨some 7, .alloc 24, _, _, _, none⟩) rfl (fun K hK => ?_) ?_
          rotate_left
          · exact AllReadyH.nil
          go_simp
          refine hK.out _ _ ((hs.out.drew.next k2).alloc _) (fun _ => ?_)
          clear hK K
          try simp only [Act.put, List.setIfInBounds_toArray, List.set_cons_zero, List.set_cons_succ]
          refine wpAnyH_ready (rs := [10]) (by kernel_rfl) (by simp) ?_
          refine AllReadyH.cons (o := ⟨none, .store 24 (.tmp 7) (.tmp 27), _, _, _, none⟩) rfl (fun K hK => ?_) ?_
          rotate_left
          · exact AllReadyH.nil
          rw [if_pos (by rfl)]
          refine wp_store_row 24 (.tmp 7) (.tmp 27) rfl (w2.heap.size) (regC d) rfl rfl 24 _ (heap_alloc_last w2 _) size24 rfl (one_all d) ?_
          refine hK.out _ _ (((hs.out.drew.next k2).alloc _).setRow (hs.out.drew.next k2).lt _) (fun _ => ?_)
          clear hK K
          simp only [Act.put]
          refine wpAnyH_take (i := 11) (oi := ⟨some 8, .assign (.tmp 28), _, _, _, none⟩) (v := ?_) rfl (by kernel_rfl) (by kernel_rfl) (by kernel_rfl) (fun _ _ _ h => h) (Or.inl ⟨by rfl, ?_⟩) (by assumption) ?_
          rotate_left
          · (intro w hSw; go_simp; try with_reducible rfl)
          try simp only [Act.put, List.setIfInBounds_toArray, List.set_cons_zero, List.set_cons_succ]
          refine wpAnyH_done (by kernel_rfl) ?_ _
          refine NoPanic.normal ?_
          go_wp2_with fail
          go_meet
          exact ⟨w2.heap.size, rfl, rfl, Lib.hid ⟨((hs.out.drew.next k2).alloc _).setRow (hs.out.drew.next k2).lt _, setRow_heap _ _ _ _ 24 (0, 0) (heap_alloc_last w2 _)⟩⟩
        refine AllReadyH.cons (o := ⟨some 7, .alloc 24, _, _, _, none⟩) rfl (fun K hK => ?_) ?_
        · go_simp
          refine hK.out _ _ ((hs.out.alloc _).drew) (fun _ => ?_)
          clear hK K
          try simp only [Act.put, List.setIfInBounds_toArray, List.set_cons_zero, List.set_cons_succ]
          refine wpAnyH_ready (rs := [5]) (by kernel_rfl) (by simp) ?_
          refine AllReadyH.cons (o := ⟨some 26, .call { callee := .value (.func 13), args := #[.tmp 21, .const (.int .i64 1), .tmp 24, .tmp 25], argTypes := #[24, 3, 3, 22] }, _, _, _, none⟩) rfl (fun K hK => ?_) ?_
          rotate_left
          · exact AllReadyH.nil
          go_simp
          go_at_call 13
          with_reducible refine (c13.out _).mono ?_
          rintro e w2 ⟨rfl, k2⟩
          refine hK.out _ _ ((hs.out.alloc _).drew.next k2) (fun _ => ?_)
          clear hK K
          try simp only [Act.put, List.setIfInBounds_toArray, List.set_cons_zero, List.set_cons_succ]
          refine wpAnyH_take (i := 6) (oi := ⟨some 20, .move (.tmp 26), _, _, _, none⟩) (v := ?_) rfl (by kernel_rfl) (by kernel_rfl) (by kernel_rfl) (fun _ _ _ h => h) (Or.inl ⟨by rfl, ?_⟩) (by assumption) ?_
          rotate_left
          · (intro w hSw; go_simp; try with_reducible rfl)
          try simp only [Act.put, List.setIfInBounds_toArray, List.set_cons_zero, List.set_cons_succ]
          refine wpAnyH_take (i := 7) (oi := ⟨some 27, .extract (.tmp 20) 0, _, _, _, none⟩) (v := ?_) rfl (by kernel_rfl) (by kernel_rfl) (by kernel_rfl) (fun _ _ _ h => h) (Or.inl ⟨by rfl, ?_⟩) (by assumption) ?_
          rotate_left
          · (intro w hSw; go_simp; try with_reducible rfl)
          try simp only [Act.put, List.setIfInBounds_toArray, List.set_cons_zero, List.set_cons_succ]
          refine wpAnyH_take (i := 8) (oi := ⟨some 28, .extract (.tmp 20) 1, _, _, _, none⟩) (v := ?_) rfl (by kernel_rfl) (by kernel_rfl) (by kernel_rfl) (fun _ _ _ h => h) (Or.inl ⟨by rfl, ?_⟩) (by assumption) ?_
          rotate_left
          · (intro w hSw; go_simp; try with_reducible rfl)
          try simp only [Act.put, List.setIfInBounds_toArray, List.set_cons_zero, List.set_cons_succ]
          refine wpAnyH_ready (rs := [10]) (by kernel_rfl) (by simp) ?_
          refine AllReadyH.cons (o := ⟨none, .store 24 (.tmp 7) (.tmp 27), _, _, _, none⟩) rfl (fun K hK => ?_) ?_
          rotate_left
          · exact AllReadyH.nil
          rw [if_pos (by rfl)]
          refine wp_store_row 24 (.tmp 7) (.tmp 27) rfl (wr.heap.size) (regC d) rfl rfl 24 _ (zero_next k2) size24 rfl (one_all d) ?_
          refine hK.out _ _ (((hs.out.alloc _).drew.next k2).setRow hs.out.lt _) (fun _ => ?_)
          clear hK K
          simp only [Act.put]
          refine wpAnyH_take (i := 11) (oi := ⟨some 8, .assign (.tmp 28), _, _, _, none⟩) (v := ?_) rfl (by kernel_rfl) (by kernel_rfl) (by kernel_rfl) (fun _ _ _ h => h) (Or.inl ⟨by rfl, ?_⟩) (by assumption) ?_
          rotate_left
          · (intro w hSw; go_simp; try with_reducible rfl)
          try simp only [Act.put, List.setIfInBounds_toArray, List.set_cons_zero, List.set_cons_succ]
          refine wpAnyH_done (by kernel_rfl) ?_ _
          refine NoPanic.normal ?_
          go_wp2_with fail
          go_meet
          exact ⟨wr.heap.size, rfl, rfl, Lib.hid ⟨((hs.out.alloc _).drew.next k2).setRow hs.out.lt _, setRow_heap _ _ _ _ 24 (0, 0) (zero_next k2)⟩⟩
        exact AllReadyH.nil
      case rest =>
        obtain ⟨b, rfl, rfl, hst⟩ := hcut
        clear hs
        go_upto_region 8 with fail
        go_region_held3 (fun w' => w'.cell? ⟨W.heap.size, 0, none⟩ = some (.int .u64 c.s0) ∧ w'.cell? ⟨W.heap.size, 1, none⟩ = some (.int .u64 c.s1) ∧ w'.cell? ⟨W.heap.size, 2, none⟩ = some (.int .u64 c.s2) ∧ w'.cell? ⟨W.heap.size, 3, none⟩ = some (.int .u64 c.s3) ∧ w'.cell? ⟨W.heap.size, 4, none⟩ = some (.int .u64 c.s4) ∧ w'.cell? ⟨W.heap.size, 5, none⟩ = some (.int .u64 c.s5) ∧ w'.cell? ⟨W.heap.size, 6, none⟩ = some (.int .u64 c.s6) ∧ w'.cell? ⟨W.heap.size, 7, none⟩ = some (.int .u64 c.s7) ∧ w'.cell? ⟨W.heap.size, 8, none⟩ = some (.int .u64 c.s8) ∧ w'.cell? ⟨W.heap.size, 9, none⟩ = some (.int .u64 c.s9) ∧ w'.cell? ⟨W.heap.size, 10, none⟩ = some (.int .u64 c.s10) ∧ w'.cell? ⟨W.heap.size, 11, none⟩ = some (.int .u64 c.s11) ∧ w'.cell? ⟨W.heap.size, 12, none⟩ = some (.int .u64 c.s12) ∧ w'.cell? ⟨W.heap.size, 13, none⟩ = some (.int .u64 c.s13) ∧ w'.cell? ⟨W.heap.size, 14, none⟩ = some (.int .u64 c.s14) ∧ w'.cell? ⟨W.heap.size, 15, none⟩ = some (.int .u64 c.s15) ∧ w'.cell? ⟨z5, j, none⟩ = some (.int .i64 (numAt j))) (first | exact (hst.out.1.drew.next k3).cells j hlt | exact hst.out.1.drew.cells j hlt | exact hst.out.1.cells j hlt | go_keep)
          (first | (go_at_call 11; (with_reducible refine (c11.out _).mono ?_); rintro e w3 ⟨rfl, k3⟩) | fail)
        have H3 := Lib.hid (show St W w3 z5 c ∧ Box w3 b d from ⟨hst.out.1.drew.next k3, hst.out.2.drew.next k3⟩)
        go_upto_region 9 with fail
        clear hst k3
        go_region_held3 (fun w' => w'.cell? ⟨b, 0, none⟩ = some (.int .u64 d.s0) ∧ w'.cell? ⟨b, 1, none⟩ = some (.int .u64 d.s1) ∧ w'.cell? ⟨b, 2, none⟩ = some (.int .u64 d.s2) ∧ w'.cell? ⟨b, 3, none⟩ = some (.int .u64 d.s3) ∧ w'.cell? ⟨b, 4, none⟩ = some (.int .u64 d.s4) ∧ w'.cell? ⟨b, 5, none⟩ = some (.int .u64 d.s5) ∧ w'.cell? ⟨b, 6, none⟩ = some (.int .u64 d.s6) ∧ w'.cell? ⟨b, 7, none⟩ = some (.int .u64 d.s7) ∧ w'.cell? ⟨b, 8, none⟩ = some (.int .u64 d.s8) ∧ w'.cell? ⟨b, 9, none⟩ = some (.int .u64 d.s9) ∧ w'.cell? ⟨b, 10, none⟩ = some (.int .u64 d.s10) ∧ w'.cell? ⟨b, 11, none⟩ = some (.int .u64 d.s11) ∧ w'.cell? ⟨b, 12, none⟩ = some (.int .u64 d.s12) ∧ w'.cell? ⟨b, 13, none⟩ = some (.int .u64 d.s13) ∧ w'.cell? ⟨b, 14, none⟩ = some (.int .u64 d.s14) ∧ w'.cell? ⟨b, 15, none⟩ = some (.int .u64 d.s15) ∧ w'.cell? ⟨z5, j, none⟩ = some (.int .i64 (numAt j))) (first | exact (by obtain ⟨a0, a1, a2, a3, a4, a5, a6, a7, a8, a9, a10, a11, a12, a13, a14, a15⟩ := ((show St W w4 z5 c ∧ Box w4 b d from ⟨H3.out.1.drew.next k4, H3.out.2.drew.next k4⟩).2).all; exact ⟨a0, a1, a2, a3, a4, a5, a6, a7, a8, a9, a10, a11, a12, a13, a14, a15, ((show St W w4 z5 c ∧ Box w4 b d from ⟨H3.out.1.drew.next k4, H3.out.2.drew.next k4⟩).1.cells j hlt).2.2.2.2.2.2.2.2.2.2.2.2.2.2.2.2⟩) | exact (by obtain ⟨a0, a1, a2, a3, a4, a5, a6, a7, a8, a9, a10, a11, a12, a13, a14, a15⟩ := ((show St W _ z5 c ∧ Box _ b d from ⟨H3.out.1.drew, H3.out.2.drew⟩).2).all; exact ⟨a0, a1, a2, a3, a4, a5, a6, a7, a8, a9, a10, a11, a12, a13, a14, a15, ((show St W _ z5 c ∧ Box _ b d from ⟨H3.out.1.drew, H3.out.2.drew⟩).1.cells j hlt).2.2.2.2.2.2.2.2.2.2.2.2.2.2.2.2⟩) | exact (by obtain ⟨a0, a1, a2, a3, a4, a5, a6, a7, a8, a9, a10, a11, a12, a13, a14, a15⟩ := (H3.out.2).all; exact ⟨a0, a1, a2, a3, a4, a5, a6, a7, a8, a9, a10, a11, a12, a13, a14, a15, (H3.out.1.cells j hlt).2.2.2.2.2.2.2.2.2.2.2.2.2.2.2.2⟩) | go_keep)
          (first | (go_at_call 11; (with_reducible refine (d11.out _).mono ?_); rintro e w4 ⟨rfl, k4⟩) | fail)
        have H4 : St W w4 z5 c ∧ Box w4 b d := ⟨H3.out.1.drew.next k4, H3.out.2.drew.next k4⟩
        clear H3 k4
        go_upto_region 10 with fail
        rcases hdf.out with ⟨rfl, rfl⟩ | ⟨hxy, hd⟩
        · go_wp2_with (first | (with_reducible show wpList _ _ _ (⟨some 51, Op.load 24 (.tmp 7), 24, _, _, some (2, false)⟩ :: _) _ _; refine wpList_load_want (by first | exact rfl | (simp [Region.wanted, yielded]; done) | (simp [Region.wanted, yielded, Act.put]; done)) 24 (.tmp 7) rfl (.pointer (some ⟨b, 0, none⟩)) (regV c) rfl (Box.load (H4.2)) ?_) | (with_reducible show wpList _ _ _ (⟨some 52, Op.load 24 (.tmp 2), 24, _, _, some (2, false)⟩ :: _) _ _; refine wpList_load_want (by first | exact rfl | (simp [Region.wanted, yielded]; done) | (simp [Region.wanted, yielded, Act.put]; done)) 24 (.tmp 2) rfl (.pointer (some ⟨W.heap.size, 0, none⟩)) (regV c) rfl (Box.load (H4.1.box)) ?_) | fail)
          go_roundw
          case rel => exact ⟨j + 1, by omega, by go_num, Lib.hid H4.1⟩
          case measure => simp [intOf]; omega
        · clear hdf
          rcases hd with ⟨e, rfl, he⟩ | ⟨e, rfl, he⟩ | ⟨e, rfl, he⟩
          · go_wp2_with (first | (with_reducible show wpList _ _ _ (⟨some 51, Op.load 24 (.tmp 7), 24, _, _, some (2, false)⟩ :: _) _ _; refine wpList_load_want (by first | exact rfl | (simp [Region.wanted, yielded]; done) | (simp [Region.wanted, yielded, Act.put]; done)) 24 (.tmp 7) rfl (.pointer (some ⟨b, 0, none⟩)) (regV (⟨e, c.s1, c.s2, c.s3, c.s4, c.s5, c.s6, c.s7, c.s8, c.s9, c.s10, c.s11, c.s12, c.s13, c.s14, c.s15⟩ : Reg)) rfl (Box.load (H4.2)) ?_) | (with_reducible show wpList _ _ _ (⟨some 52, Op.load 24 (.tmp 2), 24, _, _, some (2, false)⟩ :: _) _ _; refine wpList_load_want (by first | exact rfl | (simp [Region.wanted, yielded]; done) | (simp [Region.wanted, yielded, Act.put]; done)) 24 (.tmp 2) rfl (.pointer (some ⟨W.heap.size, 0, none⟩)) (regV c) rfl (Box.load (H4.1.box)) ?_) | fail)
            go_roundw
            case rel => exact ⟨j + 1, by omega, by go_num, Lib.hid H4.1⟩
            case measure => simp [intOf]; omega
          · go_wp2_with (first | (with_reducible show wpList _ _ _ (⟨some 51, Op.load 24 (.tmp 7), 24, _, _, some (2, false)⟩ :: _) _ _; refine wpList_load_want (by first | exact rfl | (simp [Region.wanted, yielded]; done) | (simp [Region.wanted, yielded, Act.put]; done)) 24 (.tmp 7) rfl (.pointer (some ⟨b, 0, none⟩)) (regV (⟨c.s0, c.s1, c.s2, e, c.s4, c.s5, c.s6, c.s7, c.s8, c.s9, c.s10, c.s11, c.s12, c.s13, c.s14, c.s15⟩ : Reg)) rfl (Box.load (H4.2)) ?_) | (with_reducible show wpList _ _ _ (⟨some 52, Op.load 24 (.tmp 2), 24, _, _, some (2, false)⟩ :: _) _ _; refine wpList_load_want (by first | exact rfl | (simp [Region.wanted, yielded]; done) | (simp [Region.wanted, yielded, Act.put]; done)) 24 (.tmp 2) rfl (.pointer (some ⟨W.heap.size, 0, none⟩)) (regV c) rfl (Box.load (H4.1.box)) ?_) | fail)
            go_roundw
            case rel => exact ⟨j + 1, by omega, by go_num, Lib.hid H4.1⟩
            case measure => simp [intOf]; omega
          · go_wp2_with (first | (with_reducible show wpList _ _ _ (⟨some 51, Op.load 24 (.tmp 7), 24, _, _, some (2, false)⟩ :: _) _ _; refine wpList_load_want (by first | exact rfl | (simp [Region.wanted, yielded]; done) | (simp [Region.wanted, yielded, Act.put]; done)) 24 (.tmp 7) rfl (.pointer (some ⟨b, 0, none⟩)) (regV (⟨c.s0, c.s1, c.s2, c.s3, e, c.s5, c.s6, c.s7, c.s8, c.s9, c.s10, c.s11, c.s12, c.s13, c.s14, c.s15⟩ : Reg)) rfl (Box.load (H4.2)) ?_) | (with_reducible show wpList _ _ _ (⟨some 52, Op.load 24 (.tmp 2), 24, _, _, some (2, false)⟩ :: _) _ _; refine wpList_load_want (by first | exact rfl | (simp [Region.wanted, yielded]; done) | (simp [Region.wanted, yielded, Act.put]; done)) 24 (.tmp 2) rfl (.pointer (some ⟨W.heap.size, 0, none⟩)) (regV c) rfl (Box.load (H4.1.box)) ?_) | fail)
            go_roundw
            case rel => exact ⟨j + 1, by omega, by go_num, Lib.hid H4.1⟩
            case measure => simp [intOf]; omega
    · go_wp2_with fail
      go_ret
      exact ⟨rfl, hs.out.below⟩

end Go.Proofs.Ythchakfffenoiaa
