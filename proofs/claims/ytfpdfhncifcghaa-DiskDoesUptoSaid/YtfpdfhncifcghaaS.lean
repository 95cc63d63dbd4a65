/- Put: an open write laid behind the others of its file, which is made where it isn't there. -/
import Derived.Test.YtfpdfhncifcghaaR
namespace Go.Proofs.Ytfpdfhncifcghaa
open Go.RowKit

set_option maxHeartbeats 2000000 in
theorem put_go (l : List Rw) (v : Value) (pb B : Nat) (kind : Int) (name : ByteArray) (pos : Int) (bytes : ByteArray) (w : World) (hD : OwnE w B v l) (hp : w.heap[pb]? = some (.cells #[v] 24 (0, 0))) (hB : B ≤ w.heap.size)
    (h0 : 0 ≤ pos) (h1 : pos ≤ 1048576) (h2 : (bytes.size : Int) ≤ 1048576 - pos) (hm : (l.length + 1) * 56 ≤ 140737488355328) (hfull : idx (sameName name) l = -1 → l.length < 32) (hreach : ∀ r ∈ l, (r.opens.length + 1) * 24 ≤ 140737488355328) :
    Calls Try.prog 32 #[.pointer (some ⟨pb, 0, none⟩), .agg #[.int .i64 kind, .string name, .int .i64 pos, .string bytes]] w fun e w' => e = .returned (.int .i64 0) ∧ ∃ v' l',
      w'.heap[pb]? = some (.cells #[v'] 24 (0, 0)) ∧ OwnE w' B v' l' ∧ l'.map core = (spot l name).1.modify (spot l name).2 (fun f => ⟨f.name, f.safe, f.opens ++ [⟨pos, bytes⟩]⟩) ∧ Only B pb w w' := by
  obtain ⟨i1, hj, hy0, hy1, hy2⟩ := info37
  obtain ⟨q, cap, rfl⟩ := owns_shape hD.1
  have hpl : pb < w.heap.size := (Array.getElem?_eq_some_iff.1 hp).1
  have p0 : w.cell? ⟨pb, 0, none⟩ = some (.slice q l.length cap) := by rw [cell_of_row w pb 0 _ 24 _ hp]; rfl
  have HD := Lib.hid hD
  have HP := Lib.hid hp
  have HR := Lib.hid hreach
  have HF := Lib.hid hfull
  clear hD hp hreach hfull
  go_enter Try.func32, Try.ntmps32
  go_upto_region 5 with fail
  go_cut [5] (Found w kind name pos bytes (idx (sameName name) l))
  case first =>
    go_region_with (go_at_call 28; refine (find_any l _ name _ (HD.out.reads.below (below1 w _).drew) (by omega)).mono ?_; rintro e w1 ⟨rfl, hb1⟩)
    all_goals
      go_wp2_with fail
      go_meet
      exact ⟨rfl, ((Below.refl _ _).drew).trans (hb1.mono (by simp))⟩
  case rest =>
    obtain ⟨rfl, hbl⟩ := hcut
    have hbw : Below w.heap.size w wc := (below1 w _).trans (hbl.mono (by omega))
    have hs1 : w.heap.size < wc.heap.size := by have := hbl.size; simp at this; omega
    have p1 : wc.cell? ⟨pb, 0, none⟩ = some (.slice q l.length cap) := (hbw.cell (p := ⟨pb, 0, none⟩) hpl).trans p0
    have z1 : wc.frozen? ⟨pb, 0, none⟩ = false := (hbw.frozen (p := ⟨pb, 0, none⟩) hpl).trans (frozen_of_row w pb 0 _ 24 HP.out)
    have o0 : wc.heap[w.heap.size]? = some (.cells (opCells kind name pos bytes) 53 (0, 0)) := (hbl.block _ (by omega)).trans (heap_alloc_new w _)
    have o1 : wc.cell? ⟨w.heap.size, 1, none⟩ = some (.string name) := by rw [cell_of_row wc _ 1 _ 53 _ o0]; rfl
    have HBL := Lib.hid hbl
    have HBW := Lib.hid hbw
    have O0 := Lib.hid o0
    clear hbl hbw o0
    go_upto_if 29 with fail
    go_cut [5] (Placed w pb B kind name pos bytes (spot l name).1 (spot l name).2)
    case first =>
      rcases idx_cases (sameName name) l with ⟨_, hi⟩ | ⟨k, hk, hi, _⟩
      · have hneg : idx (sameName name) l < 0 := by omega
        have hlen : (l.length : Int) < 32 := by have := HF.out hi; omega
        obtain ⟨P, hP, hPl⟩ := placeOf_le name l
        have hsp : spot l name = (insertAt (l.map core) P (newFile name), P) := by unfold spot; rw [if_pos hneg, hP]; rfl
        have HSP := Lib.hid hsp
        have HP2 := Lib.hid hP
        have HI := Lib.hid hi
        clear hi hP hsp
        go_wp2_with fail
        go_region_with (go_at_call 39; refine (place_any l _ name _ ((HD.out.below HBW.out).reads.below ((Below.refl _ _).drew)) (by omega)).mono ?_; rintro e w2 ⟨rfl, hb2⟩; rw [HP2.out])
        all_goals
          have hb3 : Below w.heap.size w w2 := HBW.out.trans ((below_then ((Below.refl _ _).drew) hb2).mono (by omega))
          have hs2 : wc.heap.size ≤ w2.heap.size := hb2.size
          have p2 : w2.cell? ⟨pb, 0, none⟩ = some (.slice q l.length cap) := (hb3.cell (p := ⟨pb, 0, none⟩) hpl).trans p0
          have o2 : w2.heap[w.heap.size]? = some (.cells (opCells kind name pos bytes) 53 (0, 0)) := (hb2.block _ hs1).trans O0.out
          have o3 : w2.cell? ⟨w.heap.size, 1, none⟩ = some (.string name) := by rw [cell_of_row w2 _ 1 _ 53 _ o2]; rfl
          have hd2 := HD.out.below hb3
          have hcall : ∀ W, Below w2.heap.size w2 W → W.heap[w2.heap.size]? = some (.cells #[.string name, .string .empty, .slice none 0 0] 35 (0, 0)) →
              Calls Try.prog 40 #[.slice q l.length cap, .int .i64 (P : Int), .slice (some ⟨w2.heap.size, 0, none⟩) 1 1] W fun e w' => ∃ q' c', e = .returned (.slice q' (l.length + 1) c') ∧ w'.ownsRow B 35 3 (.slice q' (l.length + 1) c') (l.length + 1) (rowCells (l.take P ++ ⟨name, .empty, .slice none 0 0, []⟩ :: l.drop P)) ∧
                (∀ r ∈ l, w'.ownsRow B 37 2 r.ov r.opens.length (wrCells r.opens)) ∧ Only B pb w w' ∧ w'.heap[pb]? = some (.cells #[.slice q l.length cap] 24 (0, 0)) ∧ w'.heap[w.heap.size]? = some (.cells (opCells kind name pos bytes) 53 (0, 0)) := fun W hW hx => by
            have hdW := hd2.below hW
            refine (insert_any l _ ⟨name, .empty, .slice none 0 0, []⟩ w2.heap.size P B W hdW.1 (by have := hW.size; omega) hPl hd2.one hx rfl hm (fun e => by have := (hd2.1.lt _ e).2; omega)).mono ?_
            rintro e w3 ⟨v3, he, ho3, hg3⟩
            obtain ⟨q', c', rfl⟩ := owns_shape ho3
            have hpb : W.heap[pb]? = some (.cells #[.slice q l.length cap] 24 (0, 0)) := (hW.block _ (by omega)).trans ((hb3.block pb hpl).trans HP.out)
            have hob : W.heap[w.heap.size]? = some (.cells (opCells kind name pos bytes) 53 (0, 0)) := (hW.block _ (by omega)).trans o2
            refine ⟨q', c', he, ho3, fun r hr => wider (hdW.2.1 r hr) hdW.1 (by decide) hg3, (only_of_below hb3 hB).trans ((only_of_below hW (by omega)).trans (only_of_grown hg3 (by have := hW.size; omega) fun k hk => (hdW.1.lt k hk).1)), ?_, ?_⟩
            · refine (hg3.block pb (by have := hW.size; omega) fun e => ?_).trans hpb
              obtain ⟨c, hc⟩ := owns_block hdW.1 e.symm
              rw [hpb] at hc; simp at hc
            · refine (hg3.block _ (by have := hW.size; omega) fun e => ?_).trans hob
              obtain ⟨c, hc⟩ := owns_block hdW.1 e.symm
              rw [hob] at hc; simp at hc
          have hpl2 : pb < w2.heap.size := by omega
          have hol2 : w.heap.size < w2.heap.size := by omega
          have HC := Lib.hid hcall
          clear hcall hd2 hb2 hb3 o2
          go_wp2_with fail
          go_region_with (go_at_call 40; refine (HC.out _ ?_ ?_).mono ?_; (exact ((Below.refl _ _).drew.alloc (Nat.le_refl _) _)); (exact heap_alloc_new w2.drew _); rintro e w3 ⟨q3, qc3, rfl, ho3, hop3, hon3, hpb3, hob3⟩; have c3 : w3.cell? ⟨pb, 0, none⟩ = some (.slice q l.length cap) := (by rw [cell_of_row w3 pb 0 _ 24 _ hpb3]; rfl); have z3 := frozen_of_row w3 pb 0 _ 24 hpb3)
          all_goals
            go_wp2_with fail
            go_meet
            rw [HSP.out]
            exact placed_new HD.out.2.2 hpl ho3 hop3 hon3 hpb3 hob3 _ rfl hPl
      · have hpos : 0 ≤ idx (sameName name) l := by omega
        have hsp : spot l name = (l.map core, k) := by unfold spot; rw [if_neg (by omega), hi]; rfl
        have HSP := Lib.hid hsp
        have HI := Lib.hid hi
        clear hsp hi
        go_wp2_with fail
        go_meet
        rw [HSP.out]
        exact ⟨by rw [HI.out], _, l, (HBW.out.block pb hpl).trans HP.out, HD.out.below HBW.out, rfl, only_of_below HBW.out hB, hs1, O0.out⟩
    case rest =>
      obtain ⟨rfl, v', l', hpb, hD', hcore, honly, hs2, hob⟩ := hcut
      have hK := spot_lt l name
      have hrch := spot_reach l name HR.out
      have HCORE := Lib.hid hcore
      generalize hsp : spot l name = sp at *
      have hlen : l'.length = sp.1.length := by rw [← hcore, List.length_map]
      have hK' : sp.2 < l'.length := by omega
      have hreach2 : (l'[sp.2].opens.length + 1) * 24 ≤ 140737488355328 := hrch (core l'[sp.2]) (by rw [← hcore]; exact List.mem_map_of_mem (List.getElem_mem _))
      have HSP := Lib.hid hsp
      generalize hkk : sp.2 = k at *
      have hK2 := hK'
      have hreach3 := hreach2
      have HKK := Lib.hid hkk
      clear hkk hK
      clear hsp hcore hrch hlen HBL HBW O0 p1 z1 o1 HD HP HR HF
      obtain ⟨q', cap', rfl⟩ := owns_shape hD'.1
      obtain ⟨g, hq, hg1, hg2, c0, c1, c2, fz⟩ := owns_file hD'.1 k hK2 (by omega)
      subst hq
      have hpl2 : pb < wc.heap.size := (Array.getElem?_eq_some_iff.1 hpb).1
      have p1 : wc.cell? ⟨pb, 0, none⟩ = some (.slice (some ⟨g, 0, none⟩) l'.length cap') := by rw [cell_of_row wc pb 0 _ 24 _ hpb]; rfl
      have o2 : wc.cell? ⟨w.heap.size, 2, none⟩ = some (.int .i64 pos) := by rw [cell_of_row wc _ 2 _ 53 _ hob]; rfl
      have o3 : wc.cell? ⟨w.heap.size, 3, none⟩ = some (.string bytes) := by rw [cell_of_row wc _ 3 _ 53 _ hob]; rfl
      have hmem : l'[k] ∈ l' := List.getElem_mem _
      obtain ⟨q2, qc2, hov⟩ := owns_shape (hD'.2.1 _ hmem)
      have hB1 : B ≤ wc.heap.size := by have := honly.size; omega
      have hown2 : ∀ o : Obj, (wc.drew.alloc o).ownsRow B 37 2 (.slice q2 l'[k].opens.length qc2) l'[k].opens.length (wrCells l'[k].opens) := fun o => hov ▸ (owns_below (hD'.2.1 _ hmem) (Below.refl _ _).drew).alloc o
      have hne2 : (Value.slice q2 l'[k].opens.length qc2).ownBlock ≠ some g := hov ▸ rows_apart hD'.1 (hD'.2.1 _ hmem) (by decide) rfl
      rw [hov] at c2
      have hcell : ∀ w2, ((wc.drew).alloc (.cells #[.int .i64 pos, .string bytes] 37)).grownBy w2 (Value.slice q2 l'[k].opens.length qc2).ownBlock → w2.cell? ⟨g, k * 3 + 2, none⟩ = some (.slice q2 l'[k].opens.length qc2) ∧ w2.frozen? ⟨g, k * 3 + 2, none⟩ = false := fun w2 hg => by
        have hb := hg.block g (by simp; omega) (fun e => hne2 e.symm)
        have ho : ((wc.drew).alloc (.cells #[.int .i64 pos, .string bytes] 37)).heap[g]? = wc.heap[g]? := heap_alloc_old (w := wc.drew) _ (r := g) (by simpa using hg2)
        exact ⟨(World.cell?_of_block (w := wc) (hb.trans ho)).trans c2, (World.frozen?_of_block (w := wc) (hb.trans ho)).trans (fz _)⟩
      have HC := Lib.hid hcell
      have HOV := Lib.hid hov
      have HOWN2 := Lib.hid hown2
      have HD2 := Lib.hid hD'
      have HPB := Lib.hid hpb
      have HONLY := Lib.hid honly
      have h63 : l'[k].opens.length + 1 ≤ maxLen := by unfold maxLen; omega
      have hBn : B ≤ ((wc.drew).alloc (.cells #[.int .i64 pos, .string bytes] 37)).heap.size := by simp; omega
      have HBN := Lib.hid hBn
      clear hov hown2 hne2 hcell hBn hD' hpb honly hob fz c0 c1 hmem
      go_wp2_with fail
      go_region_law (refine step_append_own2 (o := ⟨some 72, _, _, _, _, _⟩) rfl (.tmp 65) (.tmp 71) 33 rfl B 37 i1 (.agg #[.int .i64 0, .string .empty]) 2 24 Try.underlying33 hj hy0 hy1 hy2 rfl (by decide) (.slice q2 l'[k].opens.length qc2) l'[k].opens.length (wrCells l'[k].opens) ?hs (HOWN2.out _) ⟨wc.heap.size, 0, none⟩ 1 1 [.int .i64 pos, .string bytes] ?hx rfl ?hc ?ho h63 hreach3 HBN.out ?_; (case hs => (simp [Act.eval]; done)); (case hx => (simp [Act.eval]; done)); (case hc => exact two_cells _ _ _ _ (by simp) (by simp)); (case ho => exact two_one _ _); intro q3 qc3 w2 hown3 hg3 hsame; obtain ⟨e2, z2⟩ := HC.out w2 hg3)
      all_goals
        go_wp2_with fail
        go_ret
        refine ⟨rfl, ?_⟩
        rw [HSP.out, HKK.out, ← HCORE.out]
        exact put_done (x := ⟨pos, bytes⟩) hK2 HD2.out rfl HPB.out HOV.out hB1 HONLY.out _ hown3.out hg3 hsame.out
end Go.Proofs.Ytfpdfhncifcghaa
