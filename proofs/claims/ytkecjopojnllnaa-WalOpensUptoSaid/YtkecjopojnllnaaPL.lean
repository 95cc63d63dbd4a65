/- The disk of the reference, and what of the disk the log calls (my own, from the seat of the disk): L. -/
import Derived.Test.YtkecjopojnllnaaPH
namespace Go.Proofs.Ytkecjopojnllnaa
open Go.RowKit Go.Deep Go.Joins
set_option maxRecDepth 100000 in
set_option maxHeartbeats 1000000 in
theorem same_true (l m : List Rw) (v u : Value) (w : World) (hl : Reads w v 3 l.length (rowCells l)) (ho : Opens w l) (hm : Reads w u 3 m.length (rowCells m)) (ho2 : Opens w m)
    (hc : l.map core = m.map core) (hb : l.length ≤ 9223372036854775807) (hbo : ∀ r ∈ l, r.opens.length ≤ 9223372036854775807) :
    Calls Try.prog 15 #[.agg #[v], .agg #[u]] w fun e w' => e = .returned (.bool true) ∧ Below w.heap.size w w' := by
  have hlen : m.length = l.length := by simpa using (congrArg List.length hc).symm
  obtain ⟨p, cap, rfl⟩ := hl.is
  obtain ⟨q, qc, hq⟩ := hm.is
  rw [hlen] at hq
  subst hq
  have HLM := Lib.hid hlen
  have HC := Lib.hid hc
  clear hlen hc
  go_enter Try.func15, Try.ntmps15
  go_wp2_with fail
  go_loopw [5] (fun j wr => ∃ i : Nat, i ≤ l.length ∧ j = .int .i64 i ∧ Hid (Below (w.heap.size + 2) ((w.alloc (.cells #[.slice p l.length cap] 24)).alloc (.cells #[.slice q l.length qc] 24)) wr)) (fun j _ => l.length - (intOf j).toNat)
  case atStart => exact ⟨0, Nat.zero_le _, rfl, Below.refl _ _⟩
  case round =>
    obtain ⟨i, hi, rfl, hbl⟩ := hrel
    obtain ⟨wo, hwo⟩ : ∃ wo, wo = wr := ⟨_, rfl⟩
    subst hwo
    have hbw : Below w.heap.size w wo := (below2 w _ _).trans (hbl.out.mono (by omega))
    have hsz := hbl.out.size
    simp only [World.size_alloc] at hsz
    have f0 : wo.cell? ⟨w.heap.size, 0, none⟩ = some (.slice p l.length cap) := (hbl.out.cell (p := ⟨w.heap.size, 0, none⟩) (by simp)).trans (by simp)
    have f1 : wo.cell? ⟨w.heap.size + 1, 0, none⟩ = some (.slice q l.length qc) := (hbl.out.cell (p := ⟨w.heap.size + 1, 0, none⟩) (by simp)).trans (by simp)
    have g0 : w.heap.size < wo.heap.size := by omega
    have g1 : w.heap.size + 1 < wo.heap.size := by omega
    by_cases hlt : i < l.length
    · have hlt' : i < m.length := by rw [HLM.out]; exact hlt
      obtain ⟨b1, off1, cap1, hv, _, _, hb1, c0, c1, c2⟩ := (hl.below hbw).file i hlt
      obtain ⟨rfl, rfl⟩ : p = some ⟨b1, off1, none⟩ ∧ cap = cap1 := by simpa using hv
      obtain ⟨b2, off2, cap2, hv2, _, _, hb2, d0, d1, d2⟩ := (hm.below hbw).file i hlt'
      rw [HLM.out] at hv2
      obtain ⟨rfl, rfl⟩ : q = some ⟨b2, off2, none⟩ ∧ qc = cap2 := by simpa using hv2
      obtain ⟨e0, e1, e2⟩ := core_at HC.out i hlt hlt'
      rw [e0] at d0
      rw [e1] at d1
      have hop := (ho l[i] (List.getElem_mem _)).below hbw
      have hop2 := (ho2 m[i] (List.getElem_mem _)).below hbw
      rw [e2] at hop2
      obtain ⟨p3, cap3, hov⟩ := hop.is
      obtain ⟨p4, cap4, hov2⟩ := hop2.is
      rw [hov] at c2 hop
      rw [hov2] at d2 hop2
      have HOP := Lib.hid hop
      have HOP2 := Lib.hid hop2
      have HBW := Lib.hid hbw
      have hbol := hbo l[i] (List.getElem_mem _)
      clear hov hov2 hop hop2 hv hv2 e0 e1 e2 hbw
      go_wp2_with fail
      go_region_held3 (fun w' => w'.cell? ⟨w.heap.size, 0, none⟩ = some (.slice (some ⟨b1, off1, none⟩) l.length cap) ∧ w'.cell? ⟨w.heap.size + 1, 0, none⟩ = some (.slice (some ⟨b2, off2, none⟩) l.length qc) ∧
        w'.cell? ⟨b1, off1 + i * 3, none⟩ = some (.string l[i].name) ∧ w'.cell? ⟨b1, off1 + i * 3 + 1, none⟩ = some (.string l[i].safe) ∧ w'.cell? ⟨b1, off1 + i * 3 + 2, none⟩ = some (.slice p3 l[i].opens.length cap3) ∧
        w'.cell? ⟨b2, off2 + i * 3, none⟩ = some (.string l[i].name) ∧ w'.cell? ⟨b2, off2 + i * 3 + 1, none⟩ = some (.string l[i].safe) ∧ w'.cell? ⟨b2, off2 + i * 3 + 2, none⟩ = some (.slice p4 l[i].opens.length cap4)) (go_keep) (fail)
      · go_wp2_with fail
        go_loopw [8] (fun j wr => ∃ k : Nat, k ≤ l[i].opens.length ∧ j = .int .i64 k ∧ Hid (Below (wo.heap.size + 2) ((wo.alloc (.cells #[.string l[i].name, .string l[i].safe, .slice p3 l[i].opens.length cap3] 58)).alloc (.cells #[.string l[i].name, .string l[i].safe, .slice p4 l[i].opens.length cap4] 58)) wr)) (fun j _ => l[i].opens.length - (intOf j).toNat)
        case atStart => exact ⟨0, Nat.zero_le _, rfl, (Below.refl _ _).drew⟩
        case round =>
          obtain ⟨k, hk, rfl, hb2'⟩ := hrel
          have hbx : Below wo.heap.size wo wr := (below2 wo _ _).trans (hb2'.out.mono (by omega))
          have hsx := hb2'.out.size
          simp only [World.size_alloc] at hsx
          have x2 : wr.cell? ⟨wo.heap.size, 2, none⟩ = some (.slice p3 l[i].opens.length cap3) := (hb2'.out.cell (p := ⟨wo.heap.size, 2, none⟩) (by simp)).trans (by simp)
          have y2 : wr.cell? ⟨wo.heap.size + 1, 2, none⟩ = some (.slice p4 l[i].opens.length cap4) := (hb2'.out.cell (p := ⟨wo.heap.size + 1, 2, none⟩) (by simp)).trans (by simp)
          have HBX := Lib.hid hbx
          clear c0 c1 c2 d0 d1 d2 f0 f1 hbx
          by_cases hlk : k < l[i].opens.length
          · obtain ⟨b3, off3, cap5, hv3, _, _, hb3, t0, t1⟩ := (HOP.out.below HBX.out).write k hlk
            obtain ⟨rfl, rfl⟩ : p3 = some ⟨b3, off3, none⟩ ∧ cap3 = cap5 := by simpa using hv3
            obtain ⟨b4, off4, cap6, hv4, _, _, hb4, s0, s1⟩ := (HOP2.out.below HBX.out).write k hlk
            obtain ⟨rfl, rfl⟩ : p4 = some ⟨b4, off4, none⟩ ∧ cap4 = cap6 := by simpa using hv4
            have HLK := Lib.hid hlk
            clear hv3 hv4
            go_wp2_with fail
            have z0 : ∀ p : Near wr, p.wx.cell? ⟨wo.heap.size, 2, none⟩ = some (.slice (some ⟨b3, off3, none⟩) l[i].opens.length cap3) := fun p => below_cell p.near x2
            have z1 : ∀ p : Near wr, p.wx.cell? ⟨wo.heap.size + 1, 2, none⟩ = some (.slice (some ⟨b4, off4, none⟩) l[i].opens.length cap4) := fun p => below_cell p.near y2
            have z2 : ∀ p : Near wr, p.wx.cell? ⟨b3, off3 + k * 2, none⟩ = some (.int .i64 l[i].opens[k].pos) := fun p => below_cell p.near t0
            have z3 : ∀ p : Near wr, p.wx.cell? ⟨b3, off3 + k * 2 + 1, none⟩ = some (.string l[i].opens[k].bytes) := fun p => below_cell p.near t1
            have z4 : ∀ p : Near wr, p.wx.cell? ⟨b4, off4 + k * 2, none⟩ = some (.int .i64 l[i].opens[k].pos) := fun p => below_cell p.near s0
            have z5 : ∀ p : Near wr, p.wx.cell? ⟨b4, off4 + k * 2 + 1, none⟩ = some (.string l[i].opens[k].bytes) := fun p => below_cell p.near s1
            have hne : Nonempty (Near wr) := ⟨⟨wr, Below.refl _ _⟩⟩
            refine wp_region_near (by kernel_rfl) (by kernel_rfl) ?_
            repeat (go_big_quiet_step (fail))
            refine wpQuiet_nil ?_
            rintro _ ⟨pn, rfl⟩
            go_wp2_with fail
            go_round
            case rel => exact ⟨k + 1, HLK.out, by go_num, hb2'.out.trans (pn.near.mono (by omega))⟩
            case measure => have := HLK.out; simp [intOf]; omega
          · go_wp2_with fail
            go_round
            case rel => exact ⟨i + 1, by omega, by go_num, hbl.out.trans (HBX.out.mono (by omega))⟩
            case measure => simp [intOf]; omega
      · go_wp2_with fail
        go_loopw [8] (fun j wr => ∃ k : Nat, k ≤ l[i].opens.length ∧ j = .int .i64 k ∧ Hid (Below (wo.heap.size + 2) ((wo.alloc (.cells #[.string l[i].name, .string l[i].safe, .slice p4 l[i].opens.length cap4] 58)).alloc (.cells #[.string l[i].name, .string l[i].safe, .slice p3 l[i].opens.length cap3] 58)) wr)) (fun j _ => l[i].opens.length - (intOf j).toNat)
        case atStart => exact ⟨0, Nat.zero_le _, rfl, (Below.refl _ _).drew⟩
        case round =>
          obtain ⟨k, hk, rfl, hb2'⟩ := hrel
          have hbx : Below wo.heap.size wo wr := (below2 wo _ _).trans (hb2'.out.mono (by omega))
          have hsx := hb2'.out.size
          simp only [World.size_alloc] at hsx
          have x2 : wr.cell? ⟨wo.heap.size + 1, 2, none⟩ = some (.slice p3 l[i].opens.length cap3) := (hb2'.out.cell (p := ⟨wo.heap.size + 1, 2, none⟩) (by simp)).trans (by simp)
          have y2 : wr.cell? ⟨wo.heap.size, 2, none⟩ = some (.slice p4 l[i].opens.length cap4) := (hb2'.out.cell (p := ⟨wo.heap.size, 2, none⟩) (by simp)).trans (by simp)
          have HBX := Lib.hid hbx
          clear c0 c1 c2 d0 d1 d2 f0 f1 hbx
          by_cases hlk : k < l[i].opens.length
          · obtain ⟨b3, off3, cap5, hv3, _, _, hb3, t0, t1⟩ := (HOP.out.below HBX.out).write k hlk
            obtain ⟨rfl, rfl⟩ : p3 = some ⟨b3, off3, none⟩ ∧ cap3 = cap5 := by simpa using hv3
            obtain ⟨b4, off4, cap6, hv4, _, _, hb4, s0, s1⟩ := (HOP2.out.below HBX.out).write k hlk
            obtain ⟨rfl, rfl⟩ : p4 = some ⟨b4, off4, none⟩ ∧ cap4 = cap6 := by simpa using hv4
            have HLK := Lib.hid hlk
            clear hv3 hv4
            go_wp2_with fail
            have z0 : ∀ p : Near wr, p.wx.cell? ⟨wo.heap.size + 1, 2, none⟩ = some (.slice (some ⟨b3, off3, none⟩) l[i].opens.length cap3) := fun p => below_cell p.near x2
            have z1 : ∀ p : Near wr, p.wx.cell? ⟨wo.heap.size, 2, none⟩ = some (.slice (some ⟨b4, off4, none⟩) l[i].opens.length cap4) := fun p => below_cell p.near y2
            have z2 : ∀ p : Near wr, p.wx.cell? ⟨b3, off3 + k * 2, none⟩ = some (.int .i64 l[i].opens[k].pos) := fun p => below_cell p.near t0
            have z3 : ∀ p : Near wr, p.wx.cell? ⟨b3, off3 + k * 2 + 1, none⟩ = some (.string l[i].opens[k].bytes) := fun p => below_cell p.near t1
            have z4 : ∀ p : Near wr, p.wx.cell? ⟨b4, off4 + k * 2, none⟩ = some (.int .i64 l[i].opens[k].pos) := fun p => below_cell p.near s0
            have z5 : ∀ p : Near wr, p.wx.cell? ⟨b4, off4 + k * 2 + 1, none⟩ = some (.string l[i].opens[k].bytes) := fun p => below_cell p.near s1
            have hne : Nonempty (Near wr) := ⟨⟨wr, Below.refl _ _⟩⟩
            refine wp_region_near (by kernel_rfl) (by kernel_rfl) ?_
            repeat (go_big_quiet_step (fail))
            refine wpQuiet_nil ?_
            rintro _ ⟨pn, rfl⟩
            go_wp2_with fail
            go_round
            case rel => exact ⟨k + 1, HLK.out, by go_num, hb2'.out.trans (pn.near.mono (by omega))⟩
            case measure => have := HLK.out; simp [intOf]; omega
          · go_wp2_with fail
            go_round
            case rel => exact ⟨i + 1, by omega, by go_num, hbl.out.trans (HBX.out.mono (by omega))⟩
            case measure => simp [intOf]; omega
    · have HB := Lib.hid hbw
      go_wp2
      go_ret
      exact ⟨rfl, HB.out⟩
end Go.Proofs.Ytkecjopojnllnaa
