/- The disk of the reference, and what of the disk the log calls (my own, from the seat of the disk): Se. -/
import Derived.Test.YtkecjopojnllnaaPSd
namespace Go.Proofs.Ytkecjopojnllnaa
open Go.RowKit Go.Deep Go.Joins
theorem reads_nil (w : World) (size : Nat) : Reads w (.slice none 0 0) size 0 [] := ⟨by simp, .inl ⟨rfl, rfl⟩⟩
set_option maxRecDepth 100000 in
set_option maxHeartbeats 1000000 in
theorem crash2_any (l : List Rw) (v : Value) (fs : List Ft) (fv : Value) (w : World) (hr : Reads w v 3 l.length (rowCells l)) (ho : Opens w l) (hf : Reads w fv 3 fs.length (ftCells fs)) (hwh : Wholes w fs)
    (hok : ∀ r ∈ l, r.opens.length ≤ 1099511627776 ∧ r.safe.size ≤ 1099511627776 ∧ ∀ x ∈ r.opens, x.bytes.size ≤ 1099510579200) (hm : l.length ≤ 1099511627776) (hmf : fs.length ≤ 9223372036854775807) :
    Calls Try.prog 28 #[.agg #[v], fv] w fun e w' => ∃ v' l', e = .returned (.agg #[v']) ∧ l'.map core = (crashRows l fs).map core ∧ OwnR w' w.heap.size v' l' ∧ Below w.heap.size w w' := by
  obtain ⟨p2, cap2, rfl⟩ := hf.is
  go_enter Try.func28, Try.ntmps28
  go_wp2_with fail
  refine (copy2_any l v _ (hr.below (below2 w _ _)) (ho.below (below2 w _ _)) (fun r hr => (hok r hr).1) hm).mono ?_
  rintro e w2 ⟨v1, l1, rfl, hc1, hd1, hb2⟩
  obtain ⟨q, qc, rfl⟩ := owns_shape hd1.1
  have hb02 : Below w.heap.size w w2 := below_then (below2 w _ _) hb2
  have d2 : VarAt w2 w.heap.size v := ((VarAt.new w v).old _).keep hb2
  have r2 : VarAt w2 (w.heap.size + 1) (.slice none 0 0) := (VarAt.new2 w _ _).keep hb2
  have hlen : l1.length = l.length := by simpa using congrArg List.length hc1
  have hd1' : OwnR w2 (w.heap.size + 2) (.slice q l1.length qc) l1 := by simpa using hd1
  have hok1 : ∀ r ∈ l1, r.opens.length ≤ 1099511627776 ∧ r.safe.size ≤ 1099511627776 ∧ ∀ x ∈ r.opens, x.bytes.size ≤ 1099510579200 := fun r hr => by
    have h1 : core r ∈ l.map core := hc1 ▸ List.mem_map_of_mem hr
    obtain ⟨r0, h2, h3⟩ := List.mem_map.1 h1
    have h4 := hok r0 h2
    unfold core at h3
    simp only [Fl.mk.injEq] at h3
    rw [← h3.2.1, ← h3.2.2]
    exact h4
  have f0 := d2.c
  have f1 := r2.c
  have fz := r2.f
  have HB2 := Lib.hid hb02
  have HD1 := Lib.hid hd1'
  have HC1 := Lib.hid hc1
  have HOK1 := Lib.hid hok1
  have HR2 := Lib.hid r2
  have l2 := r2.lt
  have hm1 : l1.length ≤ 1099511627776 := by omega
  clear hb2 hb02 hd1 hd1' hc1 d2 r2 hok1 hok hlen hm
  go_wp2_with fail
  generalize hwo : w2.alloc (Obj.cells #[.slice q l1.length qc] 24) = wo
  have hbo : Below w2.heap.size w2 wo := hwo ▸ below1 w2 _
  have Z0 : VarAt wo w2.heap.size (.slice q l1.length qc) := hwo ▸ VarAt.new w2 _
  have HBO := Lib.hid (below_then HB2.out hbo)
  have HDO := Lib.hid (HD1.out.below hbo)
  have HRO := Lib.hid (HR2.out.keep hbo)
  have HZ0 := Lib.hid Z0
  have hlo : w2.heap.size < wo.heap.size := Z0.lt
  clear hwo hbo HD1 HB2 HR2 f0 f1 fz Z0
  go_wp2_with fail
  go_loopw [6] (fun i wr => ∃ k : Nat, k ≤ l1.length ∧ i = .int .i64 k ∧ Hid (wr.ownsRow (w.heap.size + 2) 58 3 (.slice q l1.length qc) l1.length (rowCells ((crashRows l1 fs).take k ++ l1.drop k))) ∧ Hid (∀ r ∈ l1, wr.ownsRow (w.heap.size + 2) 76 2 r.ov r.opens.length (wrCells r.opens)) ∧
    Hid (VarAt wr w2.heap.size (.slice q l1.length qc)) ∧ Hid (Below (w.heap.size + 2) wo wr)) (fun i _ => l1.length - (intOf i).toNat)
  case atStart => exact ⟨0, Nat.zero_le _, rfl, HDO.out.1, HDO.out.2, HZ0, Below.refl _ _⟩
  case round =>
    obtain ⟨k, hk, rfl, hown, hops, hz, hbl⟩ := hrel
    have HBW := Lib.hid (HBO.out.trans (hbl.out.mono (by omega)))
    have hR : VarAt wr (w.heap.size + 1) (.slice none 0 0) := (hbl.out.block _ (by omega)).trans HRO.out
    have z0 := hz.out.c
    have z1 := hz.out.lt
    by_cases hlt : k < l1.length
    · have hlc : (crashRows l1 fs).length = l1.length := crashRows_length l1 fs
      obtain ⟨g, hq, hg1, hg2, c0, c1, c2, fzz⟩ := owns_file hown.out k (by simp [hlc]; omega) (by omega)
      subst hq
      have hgz : g ≠ w2.heap.size := fun e => not_at hown.out hz.out (by decide) (by rw [← e]; rfl)
      have hgt : g ≠ wr.heap.size := by omega
      rw [mix_at _ _ _ hlc hlt] at c0 c1 c2
      obtain ⟨hk1, hk2, hk3⟩ := HOK1.out l1[k] (List.getElem_mem _)
      have hop := reads_of_owns (hops.out l1[k] (List.getElem_mem _))
      obtain ⟨p3, cap3, hov⟩ := hop.is
      rw [hov] at c2 hop
      have HOP := Lib.hid hop
      have HK3 := Lib.hid hk3
      have HLC := Lib.hid hlc
      clear hov hop hk3 hlc
      have y1 := fzz (k * 3 + 1)
      have y2 := fzz (k * 3 + 2)
      clear fzz
      by_cases hkf : k < fs.length
      · obtain ⟨b2, off2, cap4, hv, _, _, hb2, d0, d1, d2⟩ := (hf.below HBW.out).fate k hkf
        obtain ⟨rfl, rfl⟩ : p2 = some ⟨b2, off2, none⟩ ∧ cap2 = cap4 := by simpa using hv
        have hwk := (hwh fs[k] (List.getElem_mem _)).below HBW.out
        obtain ⟨p4, cap5, hwv⟩ := hwk.is
        rw [hwv] at d0 hwk
        have hcall : ∀ W, Below wr.heap.size wr W → Calls Try.prog 48 #[.agg #[.string l1[k].name, .string l1[k].safe, .slice p3 l1[k].opens.length cap3], .agg #[.slice p4 fs[k].whole.length cap5, .int .i64 fs[k].torn, .int .i64 fs[k].nb]] W fun e w' =>
            e = .returned (.string (layB l1[k].safe (surv fs[k].whole fs[k].torn fs[k].nb 0 l1[k].opens))) ∧ Below wr.heap.size wr w' ∧ Below W.heap.size W w' := fun W hW =>
          (survived_any _ _ _ _ _ _ _ _ W (HOP.out.below hW) hk1 (hwk.below hW) hk2 HK3.out).mono fun e w' ⟨h1, h2⟩ => ⟨h1, below_then hW h2, h2⟩
        have HC := Lib.hid hcall
        clear hwv hwk hv hcall
        have hS : ∀ w' : World, Below (wr.alloc (.cells #[.slice p4 fs[k].whole.length cap5, .int .i64 fs[k].torn, .int .i64 fs[k].nb] 91)).heap.size (wr.alloc (.cells #[.slice p4 fs[k].whole.length cap5, .int .i64 fs[k].torn, .int .i64 fs[k].nb] 91)) w' → (fun w' => w'.cell? ⟨w2.heap.size, 0, none⟩ = some (.slice (some ⟨g, 0, none⟩) l1.length qc) ∧ w'.cell? ⟨wr.heap.size, 0, none⟩ = some (.slice p4 fs[k].whole.length cap5) ∧ w'.cell? ⟨wr.heap.size, 1, none⟩ = some (.int .i64 fs[k].torn) ∧ w'.cell? ⟨wr.heap.size, 2, none⟩ = some (.int .i64 fs[k].nb)) w' := fun w' h => ⟨below_cell h (below_cell (below1 wr _) z0), below_cell h (by simp), below_cell h (by simp), below_cell h (by simp)⟩
        have hS1 : ∀ (w' : World) (j : Nat) (x : Value), (fun w' => w'.cell? ⟨w2.heap.size, 0, none⟩ = some (.slice (some ⟨g, 0, none⟩) l1.length qc) ∧ w'.cell? ⟨wr.heap.size, 0, none⟩ = some (.slice p4 fs[k].whole.length cap5) ∧ w'.cell? ⟨wr.heap.size, 1, none⟩ = some (.int .i64 fs[k].torn) ∧ w'.cell? ⟨wr.heap.size, 2, none⟩ = some (.int .i64 fs[k].nb)) w' → (fun w' => w'.cell? ⟨w2.heap.size, 0, none⟩ = some (.slice (some ⟨g, 0, none⟩) l1.length qc) ∧ w'.cell? ⟨wr.heap.size, 0, none⟩ = some (.slice p4 fs[k].whole.length cap5) ∧ w'.cell? ⟨wr.heap.size, 1, none⟩ = some (.int .i64 fs[k].torn) ∧ w'.cell? ⟨wr.heap.size, 2, none⟩ = some (.int .i64 fs[k].nb)) (w'.setCell ⟨g, j, none⟩ x) := fun w' j x h => by
          obtain ⟨h1, h2, h3, h4⟩ := h
          exact ⟨(World.cell?_setCell_far _ _ _ _ hgz).trans h1, (World.cell?_setCell_far _ _ _ _ hgt).trans h2, (World.cell?_setCell_far _ _ _ _ hgt).trans h3, (World.cell?_setCell_far _ _ _ _ hgt).trans h4⟩
        have HSS := Lib.hid hS
        have HS1 := Lib.hid hS1
        clear hS hS1
        go_wp2_with fail
        refine wp_region_noPanic ?_
        refine wp_region_held_drew (S := (fun w' => w'.cell? ⟨w2.heap.size, 0, none⟩ = some (.slice (some ⟨g, 0, none⟩) l1.length qc) ∧ w'.cell? ⟨wr.heap.size, 0, none⟩ = some (.slice p4 fs[k].whole.length cap5) ∧ w'.cell? ⟨wr.heap.size, 1, none⟩ = some (.int .i64 fs[k].torn) ∧ w'.cell? ⟨wr.heap.size, 2, none⟩ = some (.int .i64 fs[k].nb))) (by kernel_rfl) ?_ (fun hHeld => ?_)
        · exact HSS.out _ (Below.refl _ _).drew
        refine wpAnyH_take (i := 0) (oi := ⟨some 26, .fieldAddr 24 (.tmp 5) 0, 0, _, _, none⟩) (v := ?_) rfl (by kernel_rfl) (by kernel_rfl) (by kernel_rfl) (fun _ _ _ h => h) (Or.inl ⟨by rfl, ?_⟩) (by assumption) ?_
        rotate_left
        · (intro w hSw; (try dsimp only at hSw); go_simp; try with_reducible rfl)
        try simp only [Act.put, List.setIfInBounds_toArray, List.set_cons_zero, List.set_cons_succ]
        refine wpAnyH_take (i := 1) (oi := ⟨some 27, .load 22 (.tmp 26), 22, _, _, none⟩) (v := ?_) rfl (by kernel_rfl) (by kernel_rfl) (by kernel_rfl) (fun _ _ _ h => h) (Or.inl ⟨by rfl, ?_⟩) (by assumption) ?_
        rotate_left
        · (intro w hSw; (try dsimp only at hSw); go_simp; try with_reducible rfl)
        try simp only [Act.put, List.setIfInBounds_toArray, List.set_cons_zero, List.set_cons_succ]
        refine wpAnyH_take (i := 2) (oi := ⟨some 28, .move (.tmp 6), 3, _, _, none⟩) (v := ?_) rfl (by kernel_rfl) (by kernel_rfl) (by kernel_rfl) (fun _ _ _ h => h) (Or.inl ⟨by rfl, ?_⟩) (by assumption) ?_
        rotate_left
        · (intro w hSw; (try dsimp only at hSw); go_simp; try with_reducible rfl)
        try simp only [Act.put, List.setIfInBounds_toArray, List.set_cons_zero, List.set_cons_succ]
        refine wpAnyH_take (i := 3) (oi := ⟨some 29, .fieldAddr 24 (.tmp 5) 0, 0, _, _, none⟩) (v := ?_) rfl (by kernel_rfl) (by kernel_rfl) (by kernel_rfl) (fun _ _ _ h => h) (Or.inl ⟨by rfl, ?_⟩) (by assumption) ?_
        rotate_left
        · (intro w hSw; (try dsimp only at hSw); go_simp; try with_reducible rfl)
        try simp only [Act.put, List.setIfInBounds_toArray, List.set_cons_zero, List.set_cons_succ]
        refine wpAnyH_take (i := 4) (oi := ⟨some 30, .load 22 (.tmp 29), 22, _, _, none⟩) (v := ?_) rfl (by kernel_rfl) (by kernel_rfl) (by kernel_rfl) (fun _ _ _ h => h) (Or.inl ⟨by rfl, ?_⟩) (by assumption) ?_
        rotate_left
        · (intro w hSw; (try dsimp only at hSw); go_simp; try with_reducible rfl)
        try simp only [Act.put, List.setIfInBounds_toArray, List.set_cons_zero, List.set_cons_succ]
        refine wpAnyH_take (i := 5) (oi := ⟨some 31, .move (.tmp 6), 3, _, _, none⟩) (v := ?_) rfl (by kernel_rfl) (by kernel_rfl) (by kernel_rfl) (fun _ _ _ h => h) (Or.inl ⟨by rfl, ?_⟩) (by assumption) ?_
        rotate_left
        · (intro w hSw; (try dsimp only at hSw); go_simp; try with_reducible rfl)
        try simp only [Act.put, List.setIfInBounds_toArray, List.set_cons_zero, List.set_cons_succ]
        refine wpAnyH_take (i := 6) (oi := ⟨some 32, .fieldAddr 24 (.tmp 5) 0, 0, _, _, none⟩) (v := ?_) rfl (by kernel_rfl) (by kernel_rfl) (by kernel_rfl) (fun _ _ _ h => h) (Or.inl ⟨by rfl, ?_⟩) (by assumption) ?_
        rotate_left
        · (intro w hSw; (try dsimp only at hSw); go_simp; try with_reducible rfl)
        try simp only [Act.put, List.setIfInBounds_toArray, List.set_cons_zero, List.set_cons_succ]
        refine wpAnyH_take (i := 7) (oi := ⟨some 33, .load 22 (.tmp 32), 22, _, _, none⟩) (v := ?_) rfl (by kernel_rfl) (by kernel_rfl) (by kernel_rfl) (fun _ _ _ h => h) (Or.inl ⟨by rfl, ?_⟩) (by assumption) ?_
        rotate_left
        · (intro w hSw; (try dsimp only at hSw); go_simp; try with_reducible rfl)
        try simp only [Act.put, List.setIfInBounds_toArray, List.set_cons_zero, List.set_cons_succ]
        refine wpAnyH_take (i := 8) (oi := ⟨some 34, .move (.tmp 6), 3, _, _, none⟩) (v := ?_) rfl (by kernel_rfl) (by kernel_rfl) (by kernel_rfl) (fun _ _ _ h => h) (Or.inl ⟨by rfl, ?_⟩) (by assumption) ?_
        rotate_left
        · (intro w hSw; (try dsimp only at hSw); go_simp; try with_reducible rfl)
        try simp only [Act.put, List.setIfInBounds_toArray, List.set_cons_zero, List.set_cons_succ]
        refine wpAnyH_take (i := 9) (oi := ⟨some 35, .indexAddr 22 (.tmp 33) (.tmp 34), 0, _, _, none⟩) (v := ?_) rfl (by kernel_rfl) (by kernel_rfl) (by kernel_rfl) (fun _ _ _ h => h) (Or.inl ⟨by rfl, ?_⟩) (by assumption) ?_
        rotate_left
        · (intro w hSw; (try dsimp only at hSw); go_simp; try with_reducible rfl)
        try simp only [Act.put, List.setIfInBounds_toArray, List.set_cons_zero, List.set_cons_succ]
        refine wpAnyH_take (i := 11) (oi := ⟨some 37, .load 91 (.tmp 7), 91, _, _, none⟩) (v := ?_) rfl (by kernel_rfl) (by kernel_rfl) (by kernel_rfl) (fun _ _ _ h => h) (Or.inl ⟨by rfl, ?_⟩) (by assumption) ?_
        rotate_left
        · (intro w hSw; (try dsimp only at hSw); go_simp; try with_reducible rfl)
        try simp only [Act.put, List.setIfInBounds_toArray, List.set_cons_zero, List.set_cons_succ]
        refine wpAnyH_ready (rs := [10]) (by kernel_rfl) (by simp) ?_
        refine AllReadyH.cons (o := ⟨some 36, .load 58 (.tmp 35), 58, _, _, none⟩) rfl (fun K hK => ?_) ?_
        rotate_left
        · exact AllReadyH.nil
        go_simp
        refine hK.out _ _ ?_ (fun hHeld => ?_)
        · exact HSS.out _ (Below.refl _ _).drew
        clear hK K
        try simp only [Act.put, List.setIfInBounds_toArray, List.set_cons_zero, List.set_cons_succ]
        refine wpAnyH_ready (rs := [12]) (by kernel_rfl) (by simp) ?_
        refine AllReadyH.cons (o := ⟨some 38, .call { callee := .value (.func 48), args := #[.tmp 36, .tmp 37], argTypes := #[58, 91] }, 9, _, _, none⟩) rfl (fun K hK => ?_) ?_
        rotate_left
        · exact AllReadyH.nil
        go_simp
        go_at_call 48
        refine (HC.out _ ?bel).mono ?_
        case bel => exact ((below1 wr _).drew)
        rintro e w6 ⟨rfl, N6, hb6⟩
        have n6 := HSS.out w6 (below_then (Below.refl _ _).drew hb6)
        have m6 := fun x => HS1.out w6 (k * 3 + 1) x n6
        have m7 := fun x y => HS1.out _ (k * 3 + 2) y (m6 x)
        have e0 := below_cell N6 c0
        have e1 := below_cell N6 c1
        have e2 := below_cell N6 c2
        have x1 := (N6.frozen (p := ⟨g, k * 3 + 1, none⟩) hg2).trans y1
        have x2 := (N6.frozen (p := ⟨g, k * 3 + 2, none⟩) hg2).trans y2
        have l7 := lt_of_cell e0
        refine hK.out _ _ ?_ (fun hHeld => ?_)
        · exact n6
        clear hK K
        try simp only [Act.put, List.setIfInBounds_toArray, List.set_cons_zero, List.set_cons_succ]
        refine wpAnyH_take (i := 13) (oi := ⟨some 39, .indexAddr 22 (.tmp 27) (.tmp 28), 0, _, _, none⟩) (v := ?_) rfl (by kernel_rfl) (by kernel_rfl) (by kernel_rfl) (fun _ _ _ h => h) (Or.inl ⟨by rfl, ?_⟩) (by assumption) ?_
        rotate_left
        · (intro w hSw; (try dsimp only at hSw); go_simp; try with_reducible rfl)
        try simp only [Act.put, List.setIfInBounds_toArray, List.set_cons_zero, List.set_cons_succ]
        refine wpAnyH_take (i := 14) (oi := ⟨some 40, .fieldAddr 58 (.tmp 39) 1, 0, _, _, none⟩) (v := ?_) rfl (by kernel_rfl) (by kernel_rfl) (by kernel_rfl) (fun _ _ _ h => h) (Or.inl ⟨by rfl, ?_⟩) (by assumption) ?_
        rotate_left
        · (intro w hSw; (try dsimp only at hSw); go_simp; try with_reducible rfl)
        try simp only [Act.put, List.setIfInBounds_toArray, List.set_cons_zero, List.set_cons_succ]
        refine wpAnyH_ready (rs := [15]) (by kernel_rfl) (by simp) ?_
        refine AllReadyH.cons (o := ⟨none, .store 9 (.tmp 40) (.tmp 38), 0, _, _, none⟩) rfl (fun K hK => ?_) ?_
        rotate_left
        · exact AllReadyH.nil
        go_simp
        refine hK.out _ _ ?_ (fun hHeld => ?_)
        · exact m6 _
        clear hK K
        try simp only [Act.put, List.setIfInBounds_toArray, List.set_cons_zero, List.set_cons_succ]
        refine wpAnyH_take (i := 16) (oi := ⟨some 41, .indexAddr 22 (.tmp 30) (.tmp 31), 0, _, _, none⟩) (v := ?_) rfl (by kernel_rfl) (by kernel_rfl) (by kernel_rfl) (fun _ _ _ h => h) (Or.inl ⟨by rfl, ?_⟩) (by assumption) ?_
        rotate_left
        · (intro w hSw; (try dsimp only at hSw); go_simp; try with_reducible rfl)
        try simp only [Act.put, List.setIfInBounds_toArray, List.set_cons_zero, List.set_cons_succ]
        refine wpAnyH_take (i := 17) (oi := ⟨some 42, .fieldAddr 58 (.tmp 41) 2, 0, _, _, none⟩) (v := ?_) rfl (by kernel_rfl) (by kernel_rfl) (by kernel_rfl) (fun _ _ _ h => h) (Or.inl ⟨by rfl, ?_⟩) (by assumption) ?_
        rotate_left
        · (intro w hSw; (try dsimp only at hSw); go_simp; try with_reducible rfl)
        try simp only [Act.put, List.setIfInBounds_toArray, List.set_cons_zero, List.set_cons_succ]
        refine wpAnyH_ready (rs := [18]) (by kernel_rfl) (by simp) ?_
        refine AllReadyH.cons (o := ⟨none, .store 56 (.tmp 42) (.const (.slice none 0 0)), 0, _, _, none⟩) rfl (fun K hK => ?_) ?_
        rotate_left
        · exact AllReadyH.nil
        go_simp
        refine hK.out _ _ ?_ (fun hHeld => ?_)
        · exact m7 _ _
        clear hK K
        try simp only [Act.put, List.setIfInBounds_toArray, List.set_cons_zero, List.set_cons_succ]
        refine wpAnyH_done (by kernel_rfl) ?_ _
        refine NoPanic.normal ?_
        go_wp2_with fail
        go_roundw
        case rel => exact ⟨k + 1, by omega, by go_num, crash_next HLC.out hlt hown.out hops.out hz.out hbl.out N6 hg1 (by have := hbl.out.size; omega) (show (crashRow l1[k] fs[k]?).safe = _ by rw [List.getElem?_eq_getElem hkf]; rfl)⟩
        case measure => simp [intOf]; omega
      · have hcall : ∀ W, Below wr.heap.size wr W → Calls Try.prog 48 #[.agg #[.string l1[k].name, .string l1[k].safe, .slice p3 l1[k].opens.length cap3], .agg #[.slice none 0 0, .int .i64 (-1), .int .i64 0]] W fun e w' =>
            e = .returned (.string l1[k].safe) ∧ Below wr.heap.size wr w' ∧ Below W.heap.size W w' := fun W hW => by
          have h := survived_any l1[k].name l1[k].safe l1[k].opens _ [] (.slice none 0 0) (-1) 0 W (HOP.out.below hW) hk1 (reads_nil W 1) hk2 HK3.out
          rw [surv_no] at h
          exact h.mono fun e w' ⟨h1, h2⟩ => ⟨h1, below_then hW h2, h2⟩
        have HC := Lib.hid hcall
        clear hcall
        have hS : ∀ w' : World, Below (wr.alloc (.cells #[.slice none 0 0, .int .i64 (-1), .int .i64 0] 91)).heap.size (wr.alloc (.cells #[.slice none 0 0, .int .i64 (-1), .int .i64 0] 91)) w' → (fun w' => w'.cell? ⟨w2.heap.size, 0, none⟩ = some (.slice (some ⟨g, 0, none⟩) l1.length qc) ∧ w'.cell? ⟨wr.heap.size, 0, none⟩ = some (.slice none 0 0) ∧ w'.cell? ⟨wr.heap.size, 1, none⟩ = some (.int .i64 (-1)) ∧ w'.cell? ⟨wr.heap.size, 2, none⟩ = some (.int .i64 0)) w' := fun w' h => ⟨below_cell h (below_cell (below1 wr _) z0), below_cell h (by simp), below_cell h (by simp), below_cell h (by simp)⟩
        have hS1 : ∀ (w' : World) (j : Nat) (x : Value), (fun w' => w'.cell? ⟨w2.heap.size, 0, none⟩ = some (.slice (some ⟨g, 0, none⟩) l1.length qc) ∧ w'.cell? ⟨wr.heap.size, 0, none⟩ = some (.slice none 0 0) ∧ w'.cell? ⟨wr.heap.size, 1, none⟩ = some (.int .i64 (-1)) ∧ w'.cell? ⟨wr.heap.size, 2, none⟩ = some (.int .i64 0)) w' → (fun w' => w'.cell? ⟨w2.heap.size, 0, none⟩ = some (.slice (some ⟨g, 0, none⟩) l1.length qc) ∧ w'.cell? ⟨wr.heap.size, 0, none⟩ = some (.slice none 0 0) ∧ w'.cell? ⟨wr.heap.size, 1, none⟩ = some (.int .i64 (-1)) ∧ w'.cell? ⟨wr.heap.size, 2, none⟩ = some (.int .i64 0)) (w'.setCell ⟨g, j, none⟩ x) := fun w' j x h => by
          obtain ⟨h1, h2, h3, h4⟩ := h
          exact ⟨(World.cell?_setCell_far _ _ _ _ hgz).trans h1, (World.cell?_setCell_far _ _ _ _ hgt).trans h2, (World.cell?_setCell_far _ _ _ _ hgt).trans h3, (World.cell?_setCell_far _ _ _ _ hgt).trans h4⟩
        have HSS := Lib.hid hS
        have HS1 := Lib.hid hS1
        clear hS hS1
        go_wp2_with fail
        refine wp_region_noPanic ?_
        refine wp_region_held_drew (S := (fun w' => w'.cell? ⟨w2.heap.size, 0, none⟩ = some (.slice (some ⟨g, 0, none⟩) l1.length qc) ∧ w'.cell? ⟨wr.heap.size, 0, none⟩ = some (.slice none 0 0) ∧ w'.cell? ⟨wr.heap.size, 1, none⟩ = some (.int .i64 (-1)) ∧ w'.cell? ⟨wr.heap.size, 2, none⟩ = some (.int .i64 0))) (by kernel_rfl) ?_ (fun hHeld => ?_)
        · exact HSS.out _ (Below.refl _ _).drew
        refine wpAnyH_take (i := 0) (oi := ⟨some 26, .fieldAddr 24 (.tmp 5) 0, 0, _, _, none⟩) (v := ?_) rfl (by kernel_rfl) (by kernel_rfl) (by kernel_rfl) (fun _ _ _ h => h) (Or.inl ⟨by rfl, ?_⟩) (by assumption) ?_
        rotate_left
        · (intro w hSw; (try dsimp only at hSw); go_simp; try with_reducible rfl)
        try simp only [Act.put, List.setIfInBounds_toArray, List.set_cons_zero, List.set_cons_succ]
        refine wpAnyH_take (i := 1) (oi := ⟨some 27, .load 22 (.tmp 26), 22, _, _, none⟩) (v := ?_) rfl (by kernel_rfl) (by kernel_rfl) (by kernel_rfl) (fun _ _ _ h => h) (Or.inl ⟨by rfl, ?_⟩) (by assumption) ?_
        rotate_left
        · (intro w hSw; (try dsimp only at hSw); go_simp; try with_reducible rfl)
        try simp only [Act.put, List.setIfInBounds_toArray, List.set_cons_zero, List.set_cons_succ]
        refine wpAnyH_take (i := 2) (oi := ⟨some 28, .move (.tmp 6), 3, _, _, none⟩) (v := ?_) rfl (by kernel_rfl) (by kernel_rfl) (by kernel_rfl) (fun _ _ _ h => h) (Or.inl ⟨by rfl, ?_⟩) (by assumption) ?_
        rotate_left
        · (intro w hSw; (try dsimp only at hSw); go_simp; try with_reducible rfl)
        try simp only [Act.put, List.setIfInBounds_toArray, List.set_cons_zero, List.set_cons_succ]
        refine wpAnyH_take (i := 3) (oi := ⟨some 29, .fieldAddr 24 (.tmp 5) 0, 0, _, _, none⟩) (v := ?_) rfl (by kernel_rfl) (by kernel_rfl) (by kernel_rfl) (fun _ _ _ h => h) (Or.inl ⟨by rfl, ?_⟩) (by assumption) ?_
        rotate_left
        · (intro w hSw; (try dsimp only at hSw); go_simp; try with_reducible rfl)
        try simp only [Act.put, List.setIfInBounds_toArray, List.set_cons_zero, List.set_cons_succ]
        refine wpAnyH_take (i := 4) (oi := ⟨some 30, .load 22 (.tmp 29), 22, _, _, none⟩) (v := ?_) rfl (by kernel_rfl) (by kernel_rfl) (by kernel_rfl) (fun _ _ _ h => h) (Or.inl ⟨by rfl, ?_⟩) (by assumption) ?_
        rotate_left
        · (intro w hSw; (try dsimp only at hSw); go_simp; try with_reducible rfl)
        try simp only [Act.put, List.setIfInBounds_toArray, List.set_cons_zero, List.set_cons_succ]
        refine wpAnyH_take (i := 5) (oi := ⟨some 31, .move (.tmp 6), 3, _, _, none⟩) (v := ?_) rfl (by kernel_rfl) (by kernel_rfl) (by kernel_rfl) (fun _ _ _ h => h) (Or.inl ⟨by rfl, ?_⟩) (by assumption) ?_
        rotate_left
        · (intro w hSw; (try dsimp only at hSw); go_simp; try with_reducible rfl)
        try simp only [Act.put, List.setIfInBounds_toArray, List.set_cons_zero, List.set_cons_succ]
        refine wpAnyH_take (i := 6) (oi := ⟨some 32, .fieldAddr 24 (.tmp 5) 0, 0, _, _, none⟩) (v := ?_) rfl (by kernel_rfl) (by kernel_rfl) (by kernel_rfl) (fun _ _ _ h => h) (Or.inl ⟨by rfl, ?_⟩) (by assumption) ?_
        rotate_left
        · (intro w hSw; (try dsimp only at hSw); go_simp; try with_reducible rfl)
        try simp only [Act.put, List.setIfInBounds_toArray, List.set_cons_zero, List.set_cons_succ]
        refine wpAnyH_take (i := 7) (oi := ⟨some 33, .load 22 (.tmp 32), 22, _, _, none⟩) (v := ?_) rfl (by kernel_rfl) (by kernel_rfl) (by kernel_rfl) (fun _ _ _ h => h) (Or.inl ⟨by rfl, ?_⟩) (by assumption) ?_
        rotate_left
        · (intro w hSw; (try dsimp only at hSw); go_simp; try with_reducible rfl)
        try simp only [Act.put, List.setIfInBounds_toArray, List.set_cons_zero, List.set_cons_succ]
        refine wpAnyH_take (i := 8) (oi := ⟨some 34, .move (.tmp 6), 3, _, _, none⟩) (v := ?_) rfl (by kernel_rfl) (by kernel_rfl) (by kernel_rfl) (fun _ _ _ h => h) (Or.inl ⟨by rfl, ?_⟩) (by assumption) ?_
        rotate_left
        · (intro w hSw; (try dsimp only at hSw); go_simp; try with_reducible rfl)
        try simp only [Act.put, List.setIfInBounds_toArray, List.set_cons_zero, List.set_cons_succ]
        refine wpAnyH_take (i := 9) (oi := ⟨some 35, .indexAddr 22 (.tmp 33) (.tmp 34), 0, _, _, none⟩) (v := ?_) rfl (by kernel_rfl) (by kernel_rfl) (by kernel_rfl) (fun _ _ _ h => h) (Or.inl ⟨by rfl, ?_⟩) (by assumption) ?_
        rotate_left
        · (intro w hSw; (try dsimp only at hSw); go_simp; try with_reducible rfl)
        try simp only [Act.put, List.setIfInBounds_toArray, List.set_cons_zero, List.set_cons_succ]
        refine wpAnyH_take (i := 11) (oi := ⟨some 37, .load 91 (.tmp 7), 91, _, _, none⟩) (v := ?_) rfl (by kernel_rfl) (by kernel_rfl) (by kernel_rfl) (fun _ _ _ h => h) (Or.inl ⟨by rfl, ?_⟩) (by assumption) ?_
        rotate_left
        · (intro w hSw; (try dsimp only at hSw); go_simp; try with_reducible rfl)
        try simp only [Act.put, List.setIfInBounds_toArray, List.set_cons_zero, List.set_cons_succ]
        refine wpAnyH_ready (rs := [10]) (by kernel_rfl) (by simp) ?_
        refine AllReadyH.cons (o := ⟨some 36, .load 58 (.tmp 35), 58, _, _, none⟩) rfl (fun K hK => ?_) ?_
        rotate_left
        · exact AllReadyH.nil
        go_simp
        refine hK.out _ _ ?_ (fun hHeld => ?_)
        · exact HSS.out _ (Below.refl _ _).drew
        clear hK K
        try simp only [Act.put, List.setIfInBounds_toArray, List.set_cons_zero, List.set_cons_succ]
        refine wpAnyH_ready (rs := [12]) (by kernel_rfl) (by simp) ?_
        refine AllReadyH.cons (o := ⟨some 38, .call { callee := .value (.func 48), args := #[.tmp 36, .tmp 37], argTypes := #[58, 91] }, 9, _, _, none⟩) rfl (fun K hK => ?_) ?_
        rotate_left
        · exact AllReadyH.nil
        go_simp
        go_at_call 48
        refine (HC.out _ ?bel).mono ?_
        case bel => exact ((below1 wr _).drew)
        rintro e w6 ⟨rfl, N6, hb6⟩
        have n6 := HSS.out w6 (below_then (Below.refl _ _).drew hb6)
        have m6 := fun x => HS1.out w6 (k * 3 + 1) x n6
        have m7 := fun x y => HS1.out _ (k * 3 + 2) y (m6 x)
        have e0 := below_cell N6 c0
        have e1 := below_cell N6 c1
        have e2 := below_cell N6 c2
        have x1 := (N6.frozen (p := ⟨g, k * 3 + 1, none⟩) hg2).trans y1
        have x2 := (N6.frozen (p := ⟨g, k * 3 + 2, none⟩) hg2).trans y2
        have l7 := lt_of_cell e0
        refine hK.out _ _ ?_ (fun hHeld => ?_)
        · exact n6
        clear hK K
        try simp only [Act.put, List.setIfInBounds_toArray, List.set_cons_zero, List.set_cons_succ]
        refine wpAnyH_take (i := 13) (oi := ⟨some 39, .indexAddr 22 (.tmp 27) (.tmp 28), 0, _, _, none⟩) (v := ?_) rfl (by kernel_rfl) (by kernel_rfl) (by kernel_rfl) (fun _ _ _ h => h) (Or.inl ⟨by rfl, ?_⟩) (by assumption) ?_
        rotate_left
        · (intro w hSw; (try dsimp only at hSw); go_simp; try with_reducible rfl)
        try simp only [Act.put, List.setIfInBounds_toArray, List.set_cons_zero, List.set_cons_succ]
        refine wpAnyH_take (i := 14) (oi := ⟨some 40, .fieldAddr 58 (.tmp 39) 1, 0, _, _, none⟩) (v := ?_) rfl (by kernel_rfl) (by kernel_rfl) (by kernel_rfl) (fun _ _ _ h => h) (Or.inl ⟨by rfl, ?_⟩) (by assumption) ?_
        rotate_left
        · (intro w hSw; (try dsimp only at hSw); go_simp; try with_reducible rfl)
        try simp only [Act.put, List.setIfInBounds_toArray, List.set_cons_zero, List.set_cons_succ]
        refine wpAnyH_ready (rs := [15]) (by kernel_rfl) (by simp) ?_
        refine AllReadyH.cons (o := ⟨none, .store 9 (.tmp 40) (.tmp 38), 0, _, _, none⟩) rfl (fun K hK => ?_) ?_
        rotate_left
        · exact AllReadyH.nil
        go_simp
        refine hK.out _ _ ?_ (fun hHeld => ?_)
        · exact m6 _
        clear hK K
        try simp only [Act.put, List.setIfInBounds_toArray, List.set_cons_zero, List.set_cons_succ]
        refine wpAnyH_take (i := 16) (oi := ⟨some 41, .indexAddr 22 (.tmp 30) (.tmp 31), 0, _, _, none⟩) (v := ?_) rfl (by kernel_rfl) (by kernel_rfl) (by kernel_rfl) (fun _ _ _ h => h) (Or.inl ⟨by rfl, ?_⟩) (by assumption) ?_
        rotate_left
        · (intro w hSw; (try dsimp only at hSw); go_simp; try with_reducible rfl)
        try simp only [Act.put, List.setIfInBounds_toArray, List.set_cons_zero, List.set_cons_succ]
        refine wpAnyH_take (i := 17) (oi := ⟨some 42, .fieldAddr 58 (.tmp 41) 2, 0, _, _, none⟩) (v := ?_) rfl (by kernel_rfl) (by kernel_rfl) (by kernel_rfl) (fun _ _ _ h => h) (Or.inl ⟨by rfl, ?_⟩) (by assumption) ?_
        rotate_left
        · (intro w hSw; (try dsimp only at hSw); go_simp; try with_reducible rfl)
        try simp only [Act.put, List.setIfInBounds_toArray, List.set_cons_zero, List.set_cons_succ]
        refine wpAnyH_ready (rs := [18]) (by kernel_rfl) (by simp) ?_
        refine AllReadyH.cons (o := ⟨none, .store 56 (.tmp 42) (.const (.slice none 0 0)), 0, _, _, none⟩) rfl (fun K hK => ?_) ?_
        rotate_left
        · exact AllReadyH.nil
        go_simp
        refine hK.out _ _ ?_ (fun hHeld => ?_)
        · exact m7 _ _
        clear hK K
        try simp only [Act.put, List.setIfInBounds_toArray, List.set_cons_zero, List.set_cons_succ]
        refine wpAnyH_done (by kernel_rfl) ?_ _
        refine NoPanic.normal ?_
        go_wp2_with fail
        go_roundw
        case rel => exact ⟨k + 1, by omega, by go_num, crash_next HLC.out hlt hown.out hops.out hz.out hbl.out N6 hg1 (by have := hbl.out.size; omega) (show (crashRow l1[k] fs[k]?).safe = _ by rw [List.getElem?_eq_none (by omega)]; rfl)⟩
        case measure => simp [intOf]; omega
    · obtain rfl : k = l1.length := by omega
      have f1 := hR.c
      have fz := hR.f
      have hlR := hR.lt
      have hown2 := hown.out
      rw [List.drop_length, List.append_nil, ← crashRows_length l1 fs, List.take_length, crashRows_length] at hown2
      have HOW := Lib.hid hown2
      clear hown2 hown
      go_wp2_with fail
      refine bodyPost_ret (v := .agg #[.slice q l1.length qc]) (by simp [results, Try.results28, go_sem, f1]) rfl
        ⟨_, crashRows l1 fs, rfl, crashRows_core HC1.out fs, ⟨?_, fun r hr => ?_⟩, HBW.out.setCell (by simp) _⟩
      · rw [crashRows_length]
        exact owns_mono (owns_other HOW.out (not_at HOW.out hR (by decide)) _ _) (by omega)
      · obtain ⟨r0, _, f, rfl⟩ := crash_mem hr
        exact World.ownsRow_nil _ _ _ _
end Go.Proofs.Ytkecjopojnllnaa
