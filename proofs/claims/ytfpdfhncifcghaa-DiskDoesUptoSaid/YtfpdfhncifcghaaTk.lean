/- The reference's Do. -/
import Derived.Test.YtfpdfhncifcghaaTj
namespace Go.Proofs.Ytfpdfhncifcghaa
open Go.RowKit Go.Deep Go.Joins

/-- The variable of the next disk, behind the call. -/
structure Next (W : World) (Z Y : Nat) (u v : Value) (B : Nat) (l : List Rw) : Prop where
  out : VarAt W Z u
  next : VarAt W Y v
  own : OwnR W B v l

set_option maxRecDepth 100000 in
set_option maxHeartbeats 1000000 in
theorem do2_any (l : List Rw) (v : Value) (ops : List DOp) (ov : Value) (n m : Nat) (w : World) (hr : Reads w v 3 l.length (rowCells l)) (ho : Opens w l) (hov : Reads w ov 4 ops.length (dopCells ops)) (hF : FitsF (l.map core) n m) (hS : FitsS (l.map core))
    (hn : n + ops.length ≤ 1073741824) (hm : m + ops.length ≤ 1073741824) (hops : ∀ o ∈ ops, o.name.size ≤ 1099511627776) :
    Calls Try.prog 14 #[.agg #[v], ov] w fun e w' => ∃ v' l', e = .returned (.tuple #[.agg #[v'], .int .i64 (doF (l.map core) ops).2.1, .int .i64 (doF (l.map core) ops).2.2]) ∧
      l'.map core = (doF (l.map core) ops).1 ∧ OwnR w' w.heap.size v' l' ∧ Below w.heap.size w w' := by
  obtain ⟨p, cap, rfl⟩ := hov.is
  obtain ⟨p0, cap0, rfl⟩ := hr.is
  have hll : l.length ≤ 1073741824 := by have := hF.files; rw [List.length_map] at this; omega
  have hoo : ∀ r ∈ l, r.opens.length ≤ 1099511627776 := fun r h => by have : r.opens.length ≤ m := hF.opens (core r) (List.mem_map_of_mem h); omega
  go_enter Try.func14, Try.ntmps14
  go_wp2_with fail
  generalize hwA : (w.alloc (Obj.cells #[.slice p0 l.length cap0] 24)).alloc (Obj.cells #[.slice none 0 0] 24) = wA
  have hsA : wA.heap.size = w.heap.size + 2 := by rw [← hwA]; simp
  have hbA : Below w.heap.size w wA := by rw [← hwA]; exact below2 w _ _
  have hD : VarAt wA w.heap.size (.slice p0 l.length cap0) := by rw [← hwA]; exact (VarAt.new _ _).old _
  have hR : VarAt wA (w.heap.size + 1) (.slice none 0 0) := by rw [← hwA]; exact VarAt.new2 _ _ _
  have HBA := Lib.hid hbA
  have HRA := Lib.hid hR
  have d0 := hD.c
  have d1 := hD.lt
  clear hwA hbA hR hD
  go_wp2_with fail
  refine (copy2_any l _ _ (hr.below HBA.out) (ho.below HBA.out) hoo (by omega)).mono ?_
  rintro e w1 ⟨v1, l1, rfl, hc1, hd1, hb1⟩
  obtain ⟨q1, qc1, rfl⟩ := owns_shape hd1.1
  have HC1 := Lib.hid hc1
  have HD1 := Lib.hid hd1
  have HB1 := Lib.hid hb1
  have hs1 := hb1.size
  clear hc1 hd1 hb1 d0
  go_wp2_with fail
  generalize hw2 : w1.alloc (Obj.cells #[.slice q1 l1.length qc1] 24) = w2
  have hb2 : Below w1.heap.size w1 w2 := hw2 ▸ below1 w1 _
  have Z2 : VarAt w2 w1.heap.size (.slice q1 l1.length qc1) := hw2 ▸ VarAt.new w1 _
  have HB2 := Lib.hid (below_then HB1.out hb2)
  have HD2 := Lib.hid (HD1.out.below hb2)
  have HZ2 := Lib.hid Z2
  clear hw2 hb2 Z2
  go_wp2_with fail
  go_loopw [8] (fun i wr => ∃ (k : Nat) (gs : List Fl) (v2 : Value) (l2 : List Rw), k ≤ ops.length ∧ i = .int .i64 k ∧ Hid (Rest (l.map core) ops k gs) ∧ Hid (FitsF gs (n + k) (m + k)) ∧ Hid (FitsS gs) ∧
    Hid (VarAt wr w1.heap.size v2) ∧ Hid (OwnR wr wA.heap.size v2 l2) ∧ Hid (l2.map core = gs) ∧ Hid (Below wA.heap.size wA wr)) (fun i _ => ops.length - (intOf i).toNat)
  case atStart =>
    refine ⟨0, l.map core, .slice q1 l1.length qc1, l1, Nat.zero_le _, rfl, ?_, hF, hS, HZ2.out, HD2.out, HC1.out, HB2.out⟩
    show _ = _
    simp
  case round =>
    obtain ⟨k, gs, v2, l2, hk, rfl, hrest, hfits, hsmall, hZ, hD, hcore, hbl⟩ := hrel
    obtain ⟨q2, qc2, rfl⟩ := owns_shape hD.out.1
    have hbr : Below w.heap.size w wr := below_then HBA.out hbl.out
    have z0 := hZ.out.c
    have z1 := hZ.out.f
    have z2 := hZ.out.lt
    have R3 := HRA.out.keep hbl.out
    have r0 := R3.c
    have r1 := R3.f
    have r2 := R3.lt
    have hsz := hbl.out.size
    by_cases hlt : k < ops.length
    · obtain ⟨b1, off1, cap1, hv, hbb1, c0, c1, c2, c3⟩ := (hov.below HBA.out).dop k hlt
      obtain ⟨rfl, rfl⟩ : p = some ⟨b1, off1, none⟩ ∧ cap = cap1 := by simpa using hv
      have hop := hops ops[k] (List.getElem_mem _)
      have hol : ∀ r ∈ l2, r.opens.length + 1 ≤ 1099511627776 := fun r h => by have : r.opens.length ≤ m + k := hfits.out.opens (core r) (hcore.out ▸ List.mem_map_of_mem h); omega
      have hl2 : l2.length ≤ 1099511627776 := by have := hfits.out.files; rw [← hcore.out, List.length_map] at this; omega
      have hcall : ∀ W, Below wr.heap.size wr W → Calls Try.prog 24 #[.agg #[.slice q2 l2.length qc2], .agg #[.int .i64 ops[k].kind, .string ops[k].name, .int .i64 ops[k].pos, .string ops[k].bytes]] W fun e w' => ∃ q3 qc3 l3, e = .returned (.tuple #[.agg #[.slice q3 (List.length l3) qc3], .int .i64 (changeF (l2.map core) ops[k]).2]) ∧
          Hid (l3.map core = (changeF (l2.map core) ops[k]).1) ∧ Hid (OwnR w' wA.heap.size (.slice q3 l3.length qc3) l3) ∧ Hid ((changeF (l2.map core) ops[k]).2 ≠ 0 → Value.slice q3 l3.length qc3 = .slice q2 l2.length qc2) ∧ Below wA.heap.size wA w' ∧ Hid (∀ Y x, VarAt W Y x → VarAt w' Y x) := fun W hW => by
        have hown := hD.out.below hW
        refine (one_any l2 _ wA.heap.size ops[k] W hown (by have := hW.size; omega) hop hl2 (hcore.out ▸ hsmall.out) hol).mono ?_
        rintro e w' ⟨v3, l3, rfl, h1, h2, h3, h4⟩
        obtain ⟨q3, qc3, rfl⟩ := owns_shape h2.1
        have hbW : Below wA.heap.size wA W := below_then hbl.out hW
        exact ⟨q3, qc3, l3, rfl, h1, h2, h3, hbW.grown h4 hbW.size fun j hj => (hown.1.lt j hj).1, fun Y x hY => VarAt.grown hY hown.1 (by decide) h4⟩
      obtain ⟨er, her⟩ : ∃ er, (changeF (l2.map core) ops[k]).2 = er := ⟨_, rfl⟩
      rw [her] at hcall
      have HCALL := Lib.hid hcall
      have HER := Lib.hid her
      have HBR := Lib.hid hbr
      have hcells : ∀ W, Below wA.heap.size wA W → W.cell? ⟨b1, off1 + k * 4, none⟩ = some (.int .i64 ops[k].kind) ∧ W.cell? ⟨b1, off1 + k * 4 + 1, none⟩ = some (.string ops[k].name) ∧ W.cell? ⟨b1, off1 + k * 4 + 2, none⟩ = some (.int .i64 ops[k].pos) ∧ W.cell? ⟨b1, off1 + k * 4 + 3, none⟩ = some (.string ops[k].bytes) :=
        fun W h => ⟨below_cell h c0, below_cell h c1, below_cell h c2, below_cell h c3⟩
      have hS0 : ∀ W, VarAt W w1.heap.size (.slice q2 l2.length qc2) → Below wA.heap.size wA W → W.cell? ⟨w1.heap.size, 0, none⟩ = some (.slice q2 l2.length qc2) ∧ W.cell? ⟨b1, off1 + k * 4, none⟩ = some (.int .i64 ops[k].kind) ∧ W.cell? ⟨b1, off1 + k * 4 + 1, none⟩ = some (.string ops[k].name) ∧ W.cell? ⟨b1, off1 + k * 4 + 2, none⟩ = some (.int .i64 ops[k].pos) ∧ W.cell? ⟨b1, off1 + k * 4 + 3, none⟩ = some (.string ops[k].bytes) :=
        fun W h1 h2 => ⟨h1.c, hcells W h2⟩
      have HSS := Lib.hid hS0
      have hs5 := HSS.out wr hZ.out hbl.out
      clear hcall her hbr hv hov hr ho hcells hS0 c0 c1 c2 c3 hD hol hl2
      have hs6 := HSS.out (wr.alloc (.cells #[.slice none 0 0] 24)) (hZ.out.old _) (below_then hbl.out (below1 _ _))
      go_wp2_with fail
      go_region_held3 (fun W => W.cell? ⟨w1.heap.size, 0, none⟩ = some (.slice q2 l2.length qc2) ∧ W.cell? ⟨b1, off1 + k * 4, none⟩ = some (.int .i64 ops[k].kind) ∧ W.cell? ⟨b1, off1 + k * 4 + 1, none⟩ = some (.string ops[k].name) ∧ W.cell? ⟨b1, off1 + k * 4 + 2, none⟩ = some (.int .i64 ops[k].pos) ∧ W.cell? ⟨b1, off1 + k * 4 + 3, none⟩ = some (.string ops[k].bytes))
        (first | exact hs5 | exact hs6 | exact HSS.out _ S6 N6 | exact HSS.out _ (S6.old _) (below_then N6 (below1 _ _)) | exact HSS.out _ (S6.far (by omega) 0 _) (nb_set (by omega) N6 0 _) | go_keep)
        (first
          | (go_at_call 24; with_reducible refine (HCALL.out _ ?bel).mono ?_; (case bel => (repeat (first | with_reducible exact nb_refl _ | with_reducible refine nb_drew ?_ | with_reducible refine nb_alloc ?_ _))); rintro e w6 ⟨q3, qc3, l3, rfl, hc3, hd3, he3, N6, hv3⟩; have S6 := hv3.out w1.heap.size (.slice q2 l2.length qc2) (by (repeat (first | with_reducible exact hZ.out | with_reducible refine VarAt.drew ?_ | with_reducible refine VarAt.old ?_ _))); first | (have Y6 := hv3.out wr.heap.size (.slice none 0 0) (by first | with_reducible exact VarAt.new _ _ | with_reducible exact VarAt.drew (VarAt.new _ _) | exact VarAt.new wr.drew _); have y6 := Y6.c; have y7 := Y6.f; have y8 := Y6.lt) | skip)
          | fail)
      all_goals
        first
          | (have hN : Next (w6.setCell ⟨wr.heap.size, 0, none⟩ (.slice q3 l3.length qc3)) w1.heap.size wr.heap.size (.slice q2 l2.length qc2) (.slice q3 l3.length qc3) wA.heap.size l3 := ⟨S6.far (by omega) 0 _, Y6.same _, hd3.out.set Y6 _⟩
             have hB5 : Below wA.heap.size wA (w6.setCell ⟨wr.heap.size, 0, none⟩ (.slice q3 l3.length qc3)) := nb_set (by omega) N6 0 _
             clear hv3 hd3 S6 N6 HCALL HSS hs5 hs6 y6 y7 y8 Y6
             revert hN hB5
             generalize w6.setCell ⟨wr.heap.size, 0, none⟩ (.slice q3 l3.length qc3) = W5
             intro hN hB5)
          | (have hN : Next (w6.alloc (.cells #[.slice q3 l3.length qc3] 24)) w1.heap.size w6.heap.size (.slice q2 l2.length qc2) (.slice q3 l3.length qc3) wA.heap.size l3 := ⟨S6.old _, VarAt.new _ _, hd3.out.below (below1 _ _)⟩
             have hB5 : Below wA.heap.size wA (w6.alloc (.cells #[.slice q3 l3.length qc3] 24)) := nb_alloc N6 _
             clear hv3 hd3 S6 N6 HCALL HSS hs5 hs6
             revert hN hB5
             generalize w6.heap.size = Y5
             generalize w6.alloc (.cells #[.slice q3 l3.length qc3] 24) = W5
             intro hN hB5)
        have n1 := hN.next.c
        have n2 := hN.next.f
        have n3 := hN.next.lt
        have o1 := hN.out.c
        have o2 := hN.out.f
        have o3 := hN.out.lt
        have R5 := HRA.out.keep hB5
        have q1 := R5.c
        have q2' := R5.f
        have q3' := R5.lt
        have HN := Lib.hid hN
        have HB5 := Lib.hid hB5
        have HR5 := Lib.hid R5
        clear hN hB5 R5 z0 z1 z2 r0 r1 r2
        by_cases he : er = 0
        · subst he
          go_wp2_with fail
          go_roundw
          case rel =>
            refine ⟨k + 1, (changeF (l2.map core) ops[k]).1, _, l3, by omega, by go_num, ?_, ?_, ?_, HN.out.out.same _, HN.out.own.set HN.out.out _, hc3.out, nb_set (by omega) HB5.out 0 _⟩
            · exact rest_step (hcore.out ▸ hrest.out) hlt HER.out
            · exact hcore.out ▸ changeF_fits hfits.out ops[k]
            · exact changeF_small (hcore.out ▸ hsmall.out) ops[k]
          case measure => simp [intOf]; omega
        · have hne : (er != 0) = true := by simpa using he
          have hd := rest_stop (hcore.out ▸ hrest.out) hlt (by rw [HER.out]; exact he)
          have HDD := Lib.hid hd
          have HVE := Lib.hid (he3.out he)
          clear hd he3
          go_wp2_with fail
          have hown := HN.out.own
          rw [HVE.out] at hown
          have hbw : Below w.heap.size w W5 := below_then HBA.out HB5.out
          refine bodyPost_ret (v := .tuple #[.agg #[.slice q2 l2.length qc2], .int .i64 (k : Int), .int .i64 er]) (by simp [results, Try.results14, go_sem, q1]) rfl
            ⟨.slice q2 l2.length qc2, l3, by rw [HDD.out, HER.out], by rw [HDD.out]; exact hc3.out, (hown.mono (by omega)).set HR5.out _, hbw.setCell (by simp) _⟩
    · obtain rfl : k = ops.length := by omega
      have hd := rest_end (hcore.out ▸ hrest.out)
      have HDD := Lib.hid hd
      have HR3 := Lib.hid R3
      have HBR := Lib.hid hbr
      clear hd hov hr ho R3 hbr
      go_wp2_with fail
      refine bodyPost_ret (v := .tuple #[.agg #[.slice q2 l2.length qc2], .int .i64 (ops.length : Int), .int .i64 0]) (by simp [results, Try.results14, go_sem, r0]) rfl
        ⟨.slice q2 l2.length qc2, l2, by rw [HDD.out], by rw [HDD.out], (hD.out.mono (by omega)).set HR3.out _, HBR.out.setCell (by simp) _⟩
end Go.Proofs.Ytfpdfhncifcghaa
