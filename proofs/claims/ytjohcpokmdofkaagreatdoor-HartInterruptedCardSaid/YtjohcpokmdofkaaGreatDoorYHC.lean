/- The machine that stands at its memory's beginning. -/
import Derived.Test.YtjohcpokmdofkaaGreatDoorYHB
import Derived.Test.YtjohcpokmdofkaaGreatDoorYRD
namespace Go.Proofs.YtjohcpokmdofkaaGreatDoor
open Go.RowKit Go.Deep Go.Joins
theorem Reads.le {w : World} {v : Value} {size n : Nat} {cells : List Value} (h : Reads w v size n cells) : n ≤ 9223372036854775807 := by
  rcases h.2 with ⟨_, h⟩ | ⟨a, cap, _, h1, h2, _⟩
  · omega
  · unfold maxLen at h2; omega
noncomputable abbrev mcZO : Obj := .cells Tryz.zeroCells42 42
theorem Mem.newM {W w : World} {l : List (Nat × Array Value × Nat)} {r : List (Nat × Value × Nat × List Value)} (h : Mem W w l r) : Mem W (w.alloc mcZO) ((w.heap.size, Tryz.zeroCells42, 42) :: l) r := h.new _ 42 (by decide)
theorem Mem.m0 {W w : World} {k : Nat} {m : Mc} {l : List (Nat × Array Value × Nat)} {r : List (Nat × Value × Nat × List Value)} (h : Mem W w ((k, mcC m, 42) :: l) r) : MBox w k m := h.g0
theorem CP.one {w : World} {N : Nat} {q : Option Addr} {c : Nat} {dv mv ov : Value} {p : Pt} {m : Mc} (h : CP w N q c dv mv ov p) : Mc1 (atM m p.F.length q c dv mv ov) := ⟨one_t h.d, one_t h.mm, one_t h.o⟩
theorem hart_setX (h g : Hart) (j : Nat) (v : Int) (hj : j < 32) (hx : g.x = h.x.set j v) (ht : tailL g = tailL h) : hartL g = (hartL h).set j (.int .u64 v) := by
  unfold hartL
  rw [List.set_append_left _ _ (by rw [xL_length]; exact hj), ht]
  unfold xL
  rw [hx, List.map_set]
/-- A register of the processor, stored. -/
theorem MBox.store_x {w : World} {g : Nat} {m m' : Mc} (k : MBox w g m) (j : Nat) (v : Int) (hj : j < 32) (hb : m'.b = m.b) (ht : mcT m' = mcT m) (hx : m'.h.x = m.h.x.set j v) (he : tailL m'.h = tailL m.h) : (Instr.storeAt 22 (.pointer (some ⟨g, j, none⟩)) (.int .u64 v)).run Tryz.prog w = .ok () (w.setRow g (mcC m')) := by
  rw [← mc_setH m m' j (.int .u64 v) (by omega) hb ht (hart_setX m.h m'.h j v hj hx he)]
  exact run_store_cell w g j 22 42 (mcC m) _ k size22 (by rw [mcC_size]; omega) rfl rfl
/-- A processor at the memory's beginning. -/
def baseH (h : Hart) : Hart := { h with x := h.x.set 0 0, hx := by rw [List.length_set]; exact h.hx, pc := 2147483648 }
def pcH (h : Hart) : Hart := { h with pc := 2147483648 }
theorem u32_at {W : World} {q : Option Addr} {c : Nat} {L : List Int} (h : Reads W (.slice q L.length c) 1 L.length (L.map (.int .u32))) (h0 : 0 < L.length) : ∃ g off, q = some ⟨g, off, none⟩ ∧ ∀ j (hj : j < L.length), ∀ w, Below W.heap.size W w → w.cell? ⟨g, off + j, none⟩ = some (.int .u32 L[j]) := by
  obtain ⟨g, off, cap, e, _, _, hg, hc⟩ := Reads.at h (by omega)
  simp only [Value.slice.injEq] at e
  exact ⟨g, off, e.1, fun j hj w hb => (hb.cell (p := ⟨g, off + j, none⟩) hg).trans (hc j _ (by rw [List.getElem?_map, List.getElem?_eq_getElem hj]; rfl))⟩
/-- What at() leaves. -/
def AtIs (W : World) (m : Mc) (p : Pt) (e : Ending) (W' : World) : Prop :=
  ∃ q c dv mv ov D M, e = .returned (mcV { m with h := baseH m.h, b := m.b.at q p.F.length c, dv := dv, mv := mv, ov := ov }) ∧ CP W' W.heap.size q c dv mv ov { p with D := D, M := M } ∧ D.length = p.D.length ∧ M.length = p.M.length ∧ Below W.heap.size W W'
theorem putD_length (D : List UInt8) (t : Int) (s : ByteArray) : (putD D t s).length = D.length := by
  unfold putD
  split
  · rename_i h
    obtain ⟨h1, h2, h3⟩ := there_iff.1 h.2
    exact spl_length _ _ _ (by omega)
  · rfl
theorem putM_length (n : Nat) (M : List Int) (E t : Int) (s : ByteArray) : (putM n M E t s).length = M.length := by
  unfold putM
  split
  · exact mk_length _ _ _ _
  · rfl
set_option maxRecDepth 100000 in
set_option maxHeartbeats 4000000 in
theorem at_any (m : Mc) (p : Pt) (L : List Int) (wq : Option Addr) (wl : Nat) (W : World) (K : MR W m p) (hF : p.F.length ≤ 8796093022208) (hD : p.D.length ≤ 140737488351232) (hM : p.M.length ≤ 17592186043904) (hO : p.O.length * 32 ≤ 140737488355328) (hL : Reads W (.slice wq L.length wl) 1 L.length (L.map (.int .u32))) (hu : ∀ n ∈ L, 0 ≤ n ∧ n < 4294967296) : Calls Tryz.prog 8 #[mcV m, .slice wq L.length wl] W (AtIs W m p) := by
  have C1 := Lib.hid (fun W' (h : Below W.heap.size W W') => rmcopy_any m p W' (K.next h) hF hD hM hO)
  have HL := Lib.hid (And.intro hL hu)
  have HLL := Reads.le hL
  have HSZ := Lib.hid (And.intro hD hM)
  clear K hF hD hM hO hL hu
  go_enter Tryz.func8, Tryz.ntmps8
  go_upto_region 1 with (fail)
  have X := Lib.hid (Mem.two (W := W) (mcC m) Tryz.zeroCells42)
  generalize (W.alloc (Obj.cells (mcC m) 42)).alloc (Obj.cells Tryz.zeroCells42 42) = wa at X ⊢
  go_upto_region 2 with (first | (with_reducible refine wpList_load_by rfl rfl (MBox.load X.out.m1) rfl ?_) | (go_at_call 16; (with_reducible refine (C1.out _ X.out.below).mono ?_); rintro e wn ⟨q, c, dv, mv, ov, rfl, h1, h2, h3, h4, kk⟩; have CA := Lib.hid (CP.base (CP.mk h1 h2 h3 h4) X.out.below.size); have X := Lib.hid (X.out.next kk); clear kk h1 h2 h3 h4) | (with_reducible refine wpList_store_by rfl rfl (MBox.store (atM m p.F.length q c dv mv ov) CA.out.one X.out.newM.g0 (by kernel_rfl)) rfl rfl ?_) | fail)
  have CA := Lib.hid ((CA.out.next (below1 wn mcZO)).over X.out.newM.g0 (mcC (atM m p.F.length q c dv mv ov)))
  have X := Lib.hid (X.out.newM.p0 (cs' := mcC (atM m p.F.length q c dv mv ov)) rfl)
  generalize wn.heap.size = z at X CA ⊢
  generalize (wn.alloc mcZO).setRow z (mcC (atM m p.F.length q c dv mv ov)) = wd at X CA ⊢
  have S1 := Lib.hid (MBox.store_h (m' := { atM m p.F.length q c dv mv ov with h := pcH m.h }) X.out.m0 22 0 (.int .u64 2147483648) size22 rfl rfl (by decide) rfl rfl rfl rfl)
  have X1 := Lib.hid (X.out.p0 (cs' := mcC { atM m p.F.length q c dv mv ov with h := pcH m.h }) rfl)
  have CA1 := Lib.hid (CA.out.over X.out.g0 (mcC { atM m p.F.length q c dv mv ov with h := pcH m.h }))
  generalize wd.setRow z (mcC { atM m p.F.length q c dv mv ov with h := pcH m.h }) = we at S1 X1 CA1
  have S2 := Lib.hid (MBox.store_x (m' := { atM m p.F.length q c dv mv ov with h := baseH m.h }) X1.out.m0 0 0 (by decide) rfl rfl rfl rfl)
  have X2 := Lib.hid (X1.out.p0 (cs' := mcC { atM m p.F.length q c dv mv ov with h := baseH m.h }) rfl)
  have CA2 := Lib.hid (CA1.out.over X1.out.g0 (mcC { atM m p.F.length q c dv mv ov with h := baseH m.h }))
  generalize we.setRow z (mcC { atM m p.F.length q c dv mv ov with h := baseH m.h }) = wf at S2 X2 CA2
  clear X X1 CA CA1
  go_upto_region 3 with (first | (with_reducible refine wpList_store_by rfl rfl S1.out rfl rfl ?_) | (with_reducible refine wpList_store_by rfl rfl S2.out rfl rfl ?_) | fail)
  clear S1 S2 C1
  go_wp2_with (fail)
  go_loopw [6, 7] (fun s i wr => ∃ (j : Nat) (x : ByteArray), j ≤ L.length ∧ j ≤ 30 ∧ i = .int .i64 j ∧ s = .string x ∧ x.size ≤ 4 * j ∧ RowKit.Hid (Below wf.heap.size wf wr)) (fun s i _ => L.length - (intOf i).toNat)
  case atStart => exact ⟨0, ⟨#[]⟩, Nat.zero_le _, Nat.zero_le _, rfl, rfl, Nat.le_refl _, Lib.hid (Below.refl _ _)⟩
  case round =>
    obtain ⟨j, x, hj, hj3, rfl, rfl, hx, Y⟩ := hrel
    go_upto_region 5 with (fail)
    go_cut [22] from 15 to 32 (fun v wx => v = .bool (decide (j < L.length) && decide (j < 30)) ∧ wx = wr)
    case first =>
      by_cases h1 : j < L.length
      · by_cases h2 : j < 30
        · have g1 : decide ((j : Int) < 30) = true := decide_eq_true (by omega)
          have g2 : decide (j < 30) = true := decide_eq_true h2
          have g3 : decide (j < L.length) = true := decide_eq_true h1
          go_wp2_with fail
          go_meet
          exact ⟨by rw [g2, g3]; rfl, rfl⟩
        · have g1 : decide ((j : Int) < 30) = false := decide_eq_false (by omega)
          have g2 : decide (j < 30) = false := decide_eq_false h2
          have g3 : decide (j < L.length) = true := decide_eq_true h1
          go_wp2_with fail
          go_meet
          exact ⟨by rw [g2, g3]; rfl, rfl⟩
      · have g3 : decide (j < L.length) = false := decide_eq_false h1
        go_wp2_with fail
        go_meet
        exact ⟨by rw [g3]; rfl, rfl⟩
    case rest =>
      obtain ⟨rfl, rfl⟩ := hcut
      rcases Bool.eq_false_or_eq_true (decide (j < L.length) && decide (j < 30)) with hgo | hgo
      · rw [hgo]
        have hlt : j < L.length := by simp at hgo; omega
        have hl30 : j < 30 := by simp at hgo; omega
        clear hgo
        obtain ⟨g, off, rfl, hld⟩ := u32_at HL.out.1 (by omega)
        have hU := HL.out.2 L[j] (List.getElem_mem ..)
        have c0 := hld j hlt _ (below_then X2.out.below Y.out)
        generalize L[j] = n at hU c0
        have hw : IntKind.u64.wrap n = n := by rw [IntKind.wrap_u64]; omega
        obtain ⟨k, rfl⟩ : ∃ k : Nat, n = k := ⟨n.toNat, by omega⟩
        have C4 : RowKit.Hid (Calls Tryz.prog 14 #[.int .u64 k, .int .i64 4] wc fun e w' => e = .returned (.string (bytesN k 4)) ∧ Below wc.heap.size wc w') := Lib.hid (rbytes_any k 4 wc (by omega) (by omega))
        have hbz : (bytesN k 4).size = 4 := bytesN_size _ _ (by omega)
        generalize bytesN k 4 = y at C4 hbz
        have hs1 : ¬ (9223372036854775807 < (x.size : Int) + y.size) := by omega
        have hs2 : ¬ (9223372036854775807 < x.size + y.size) := by omega
        have hxy : (x ++ y).size ≤ 4 * (j + 1) := by rw [ByteArray.size_append]; omega
        have HX := Lib.hid hxy
        clear hld hU hxy
        go_wp2_with (first | (go_at_call 14; (with_reducible refine C4.out.mono ?_); rintro e wv ⟨rfl, kk⟩; have Y := Lib.hid (below_then Y.out kk); clear kk) | fail)
        exact ⟨⟨j + 1, x ++ y, by omega, by omega, by go_num, rfl, HX.out, Y⟩, by simp [intOf]; omega⟩
      · rw [hgo]
        clear hgo
        have hz : x.size ≤ 9223372036854775807 := by omega
        have X := Lib.hid (X2.out.next Y.out)
        have CA := Lib.hid (CA2.out.next Y.out)
        clear X2 CA2 Y
        have C5 := Lib.hid (rput_any z 73 W.heap.size dv mv m.E 2147483648 p.D p.M x wc (MBox.ram X.out.m0) CA.out.d CA.out.mm (by decide) (by decide) hz)
        go_upto_region 9 with (first | (go_at_call 13; (with_reducible refine C5.out.mono ?_); rintro e wv ⟨rfl, kk⟩) | fail)
        have nb : ∀ (g : Nat) (t : TypeId) (cs : Array Value), wc.heap[g]? = some (.cells cs t (0, 0)) → t ≠ 5 → t ≠ 22 → wv.heap[g]? = wc.heap[g]? := fun g t cs hg h5 h22 =>
          kk.t.block g (Array.getElem?_eq_some_iff.1 hg).1 fun hS => by
            rcases hS with hS | hS
            · exact not_at CA.out.d hg (fun x => h5 x.symm) hS.symm
            · exact not_at CA.out.mm hg (fun x => h22 x.symm) hS.symm
        have Z1 := Lib.hid (show MBox wv z { atM m p.F.length q c dv mv ov with h := baseH m.h } from (nb z 42 _ X.out.g0 (by decide) (by decide)).trans X.out.g0)
        have R1 := Lib.hid (show wv.heap[W.heap.size + 1]? = some (.cells Tryz.zeroCells42 42 (0, 0)) from (nb _ 42 _ X.out.g1 (by decide) (by decide)).trans X.out.g1)
        have CV := Lib.hid (show CP wv W.heap.size q c dv mv ov { p with D := putD p.D 2147483648 x, M := putM p.D.length p.M m.E 2147483648 x } from ⟨CA.out.fr.keep fun g cur _ hg => nb g 9 cur hg (by decide) (by decide), kk.d, kk.m, owns_same CA.out.o fun g hg => by
          obtain ⟨cur, hc⟩ := owns_block CA.out.o hg
          exact nb g 175 cur hc (by decide) (by decide)⟩)
        have BV := Lib.hid (show Below W.heap.size W wv from Touch.below X.out.below kk.t (fun k hk => by
          rcases hk with h | h
          · exact (owns_lt CA.out.d h.symm).1
          · exact (owns_lt CA.out.mm h.symm).1) X.out.below.size)
        clear kk nb X CA C5
        have one := CV.out.one (m := { m with h := baseH m.h })
        have HONE := Lib.hid one
        clear one
        go_wp2_with (first | (with_reducible refine wpList_load_by rfl rfl (MBox.load Z1.out) rfl ?_) | (with_reducible refine wpList_store_by rfl rfl (MBox.store { atM m p.F.length q c dv mv ov with h := baseH m.h } HONE.out R1.out (by kernel_rfl)) rfl rfl ?_) | fail)
        have CW := Lib.hid (CV.out.over R1.out (mcC { atM m p.F.length q c dv mv ov with h := baseH m.h }))
        have RW := Lib.hid (setRow_heap wv (W.heap.size + 1) _ (mcC { atM m p.F.length q c dv mv ov with h := baseH m.h }) 42 (0, 0) R1.out)
        have BW := Lib.hid (show Below W.heap.size W (wv.setRow (W.heap.size + 1) (mcC { atM m p.F.length q c dv mv ov with h := baseH m.h })) from Touch.below BV.out ((Touch.refl wv (fun x => x = W.heap.size + 1)).setRow (.inl rfl) _) (fun k hk => by subst hk; omega) BV.out.size)
        refine bodyPost_ret (v := mcV { atM m p.F.length q c dv mv ov with h := baseH m.h }) (results_cell_row Tryz.results8 _ _ (W.heap.size + 1) 42 (mcC { atM m p.F.length q c dv mv ov with h := baseH m.h }) (0, 0) _ rfl RW.out Tryz.underlying42 rfl (by rw [size42, mcC_size])) rfl ?_
        exact ⟨q, c, dv, mv, ov, _, _, rfl, CW.out, putD_length _ _ _, putM_length _ _ _ _ _, BW.out⟩

end Go.Proofs.YtjohcpokmdofkaaGreatDoor
