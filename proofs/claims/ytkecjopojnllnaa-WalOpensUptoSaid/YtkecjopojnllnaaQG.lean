/- The segments of a prefix, as the program finds them. -/
import Derived.Test.YtkecjopojnllnaaQF
import Derived.Test.YtkecjopojnllnaaQE
import Derived.Test.YtkecjopojnllnaaPRa
namespace Go.Proofs.Ytkecjopojnllnaa
open Go.RowKit Go.Deep Go.Joins

theorem insertion_nil (w : World) : Calls Try.prog 77 #[.slice none 0 0, .int .i64 0, .int .i64 0, cmpV] w fun e w' => e = .returned (.tuple #[]) ∧ w = w' := by
  go_enter Try.func77, Try.ntmps77
  go_wp2_with fail
  go_loop [8] (fun i => i = .int .i64 1) (fun _ => 0)
  case atStart => rfl
  case round =>
    subst hrel
    go_wp2_with fail
    go_end0
    exact ⟨rfl, rfl⟩
theorem stable_nil (w : World) : Calls Try.prog 70 #[.slice none 0 0, .int .i64 0, cmpV] w fun e w' => e = .returned (.tuple #[]) ∧ w = w' := by
  go_enter Try.func70, Try.ntmps70
  go_wp2_with fail
  go_loop [7, 8] (fun a b => a = .int .i64 0 ∧ b = .int .i64 20) (fun _ _ => 0)
  case atStart => exact ⟨rfl, rfl⟩
  case round =>
    obtain ⟨rfl, rfl⟩ := hrel
    go_wp2_with (go_at_call 77; refine (insertion_nil _).mono ?_; rintro e w1 ⟨rfl, rfl⟩)
    go_loop [6] (fun a => a = .int .i64 20) (fun _ => 0)
    case atStart => rfl
    case round =>
      subst hrel
      go_wp2_with fail
      go_end0
      exact ⟨rfl, rfl⟩
theorem sort_nil (w : World) : Calls Try.prog 50 #[.slice none 0 0, cmpV] w fun e w' => e = .returned (.tuple #[]) ∧ w = w' := by
  go_enter Try.func50, Try.ntmps50
  go_wp2_with (go_at_call 70; refine (stable_nil _).mono ?_; rintro e w1 ⟨rfl, rfl⟩)
  go_end0
  exact ⟨rfl, rfl⟩
theorem compact_nil (w : World) : Calls Try.prog 53 #[.slice none 0 0, eqV] w fun e w' => e = .returned (.slice none 0 0) ∧ w = w' := by
  go_enter Try.func53, Try.ntmps53
  go_wp2_with fail
  go_ret
  exact ⟨rfl, rfl⟩

/-! ### Plain -/
def slP : Value → Option Addr | .slice p _ _ => p | _ => none
def slL : Value → Nat | .slice _ l _ => l | _ => 0
def slC : Value → Nat | .slice _ _ c => c | _ => 0
/-- The file as a segment of that number. -/
def sgOf (n : Nat) (r : Rw) : Sg := ⟨n, r.name, r.safe, slP r.ov, slL r.ov, slC r.ov⟩
def sgs (p : ByteArray) (l : List Rw) : List Sg := l.filterMap fun r => (numB p r.name).map fun n => sgOf n r
theorem sgs_snoc (p : ByteArray) (l : List Rw) (k : Nat) (h : k < l.length) : sgs p (l.take (k + 1)) = sgs p (l.take k) ++ ((numB p l[k].name).map fun n => sgOf n l[k]).toList := by
  unfold sgs
  rw [List.take_succ_eq_append_getElem h, List.filterMap_append]
  cases h : numB p l[k].name <;> simp [h]
theorem sgs_len (p : ByteArray) (l : List Rw) : (sgs p l).length ≤ l.length := List.length_filterMap_le _ _
/-- The row of the segments, from nothing on. -/
def OwnN (w : World) (B : Nat) (v : Value) (l : List Sg) : Prop := w.ownsRow B 84 4 v l.length (segCells l) ∧ (v = .slice none 0 0 ↔ l = [])
theorem OwnN.below {w w' : World} {B : Nat} {v : Value} {l : List Sg} (h : OwnN w B v l) (hb : Below w.heap.size w w') : OwnN w' B v l := ⟨owns_below h.1 hb, h.2⟩
theorem OwnN.toS {w : World} {B : Nat} {v : Value} {l : List Sg} (h : OwnN w B v l) (hl : l ≠ []) : ∃ g cap, v = .slice (some ⟨g, 0, none⟩) l.length cap ∧ OwnS w B g l.length cap l := by
  rcases h.1.2 with ⟨h1, _⟩ | ⟨g, cap, cur, h1, _⟩
  · exact absurd (h.2.1 h1) hl
  · exact ⟨g, cap, h1, rfl, h1 ▸ h.1⟩

set_option maxRecDepth 100000 in
set_option maxHeartbeats 2000000 in
theorem segments_any (l : List Rw) (v : Value) (p : ByteArray) (w : World) (hr : Reads w v 3 l.length (rowCells l)) (ho : Opens w l) (hp : p.size ≤ 1000) (hm : l.length ≤ 1099511627776) :
    Calls Try.prog 31 #[.agg #[v], .string p] w fun e w' => ∃ (v' : Value) (D Z : List Sg), e = .returned v' ∧ w'.ownsRow w.heap.size 84 4 v' D.length (segCells D) ∧ D = dedup Z ∧ Rises Z ∧ Keeps (sgs p l) Z ∧ Below w.heap.size w w' := by
  obtain ⟨q, cap, rfl⟩ := hr.is
  obtain ⟨i0, hi, hz0, hz1, hz2⟩ := info_parts (show (Try.prog.info? 84).map (fun i => (i.zero, i.size, i.bytes)) = some (some (.agg #[.int .i64 0, .string .empty, .string .empty, .slice none 0 0]), 4, 64) by kernel_rfl)
  go_enter Try.func31, Try.ntmps31
  go_wp2_with fail
  generalize hw0 : w.alloc (Obj.cells #[.slice q l.length cap] 24) = w0
  have hb0 : Below w.heap.size w w0 := hw0 ▸ below1 w _
  have hs0 : w0.heap.size = w.heap.size + 1 := by rw [← hw0]; simp
  have hd0 : VarAt w0 w.heap.size (.slice q l.length cap) := hw0 ▸ VarAt.new w _
  have HB0 := Lib.hid hb0
  have HD0 := Lib.hid hd0
  have d0 := hd0.c
  have d1 := hd0.lt
  clear hw0 hb0 hd0
  go_wp2_with fail
  go_loopw [13, 5] (fun i u wr => ∃ k : Nat, k ≤ l.length ∧ i = .int .i64 (k : Int) ∧ Hid (OwnN wr w0.heap.size u (sgs p (l.take k))) ∧ Hid (Below w0.heap.size w0 wr)) (fun i _ _ => l.length - (intOf i).toNat)
  case atStart => exact ⟨0, Nat.zero_le _, rfl, ⟨World.ownsRow_nil _ _ _ _, ⟨fun _ => rfl, fun _ => rfl⟩⟩, Below.refl _ _⟩
  case round =>
    obtain ⟨k, hk, rfl, hown, hbl⟩ := hrel
    obtain ⟨wo, hwo⟩ : ∃ wo, wo = wr := ⟨_, rfl⟩
    subst hwo
    have hbw := below_then HB0.out hbl.out
    have HBW := Lib.hid hbw
    clear hbw
    by_cases hlt : k < l.length
    · obtain ⟨b1, off1, cap1, hv, _, _, hb1, c0, c1, c2⟩ := (hr.below HBW.out).file k hlt
      obtain ⟨rfl, rfl⟩ : q = some ⟨b1, off1, none⟩ ∧ cap = cap1 := by simpa using hv
      have hop := (ho l[k] (List.getElem_mem _)).below HBW.out
      obtain ⟨p3, cap3, hov⟩ := hop.is
      rw [hov] at c2
      have hsn := sgs_snoc p l k hlt
      have HSN := Lib.hid hsn
      have hlen := sgs_len p (l.take k)
      rw [List.length_take, Nat.min_eq_left hk] at hlen
      have HOV := Lib.hid hov
      have hnum := number_any p l[k].name
      have HNUM := Lib.hid hnum
      clear hv hop hov hsn hnum
      cases hn : numB p l[k].name with
      | none =>
        have HN := Lib.hid hn
        rw [hn] at HNUM HSN
        clear hn
        go_wp2_with (go_at_call 49; refine (HNUM.out _ hp).mono ?_; rintro e w1 ⟨rfl, rfl⟩; unfold numV)
        go_roundw
        case rel =>
          refine ⟨k + 1, by omega, by go_num, ?_, nb_alloc hbl.out _⟩
          have h0 := HSN.out
          simp only [Option.map_none, Option.toList_none, List.append_nil] at h0
          rw [h0]
          exact hown.out.below (below1 _ _)
        case measure => simp [intOf]; omega
      | some n =>
        have HN := Lib.hid hn
        rw [hn] at HNUM HSN
        clear hn
        go_wp2_with (first
          | (go_at_call 49; refine (HNUM.out _ hp).mono ?_; rintro e w1 ⟨rfl, rfl⟩; unfold numV)
          | (at_builtin; refine wpList_append_own _ rfl _ _ 60 rfl w0.heap.size 84 i0 (.agg #[.int .i64 0, .string .empty, .string .empty, .slice none 0 0]) 4 64 Try.underlying60 hi hz0 hz1 hz2 rfl (by decide) _ (sgs p (l.take k)).length (segCells (sgs p (l.take k))) rfl ?g1 ⟨wo.heap.size + 1, 0, none⟩ 1 1 [.int .i64 (n : Int), .string l[k].name, .string l[k].safe, .slice p3 l[k].opens.length cap3] rfl rfl ?g2 ?g3 ?g4 ?g5 ?g6 ?_; rotate_right 1; intro v6 w6 hown6 hg6 hnil6; have HOWN6 := Lib.hid hown6; have HG6 := Lib.hid hg6; have HNIL6 := Lib.hid hnil6; clear hown6 hg6 hnil6))
        case g1 => exact owns_below (owns_below hown.out.1 (below1 _ _)) (below1 _ _)
        case g2 =>
          intro j u hu
          rw [add_lit, Nat.zero_add, cell_of_row _ _ _ _ 84 _ (heap_alloc2_new wo _ _)]
          simpa using hu
        case g3 =>
          intro u hu
          simp at hu
          rcases hu with rfl | rfl | rfl | rfl <;> rfl
        case g4 => unfold maxLen; omega
        case g5 => omega
        case g6 => have := hbl.out.size; simp; omega
        case roundEnd =>
          refine ⟨⟨k + 1, by omega, by go_num, ?_, below_grown (nb_alloc (nb_alloc hbl.out _) _) (owns_below (owns_below hown.out.1 (below1 _ _)) (below1 _ _)) HG6.out⟩, by simp [intOf]; omega⟩
          have h0 := HSN.out
          simp only [Option.map_some, Option.toList_some] at h0
          have e2 : segCells [sgOf n l[k]] = [.int .i64 (n : Int), .string l[k].name, .string l[k].safe, .slice p3 l[k].opens.length cap3] := by
            simp [segCells, Sg.cells, sgOf, HOV.out, slP, slL, slC]
          refine ⟨?_, ?_⟩
          · rw [h0, List.length_append, segCells_append, e2]
            exact HOWN6.out
          · rw [HNIL6.out, h0]
            simp
    · obtain rfl : k = l.length := by omega
      have hown' : OwnN wo w0.heap.size u5 (sgs p l) := by
        have h0 := hown.out
        rwa [List.take_length] at h0
      by_cases hnil : sgs p l = []
      · have hu := hown'.2.2 hnil
        subst hu
        have HNIL := Lib.hid hnil
        clear hown hown' hnil
        go_wp2_with (first
          | (go_at_call 50; refine (sort_nil _).mono ?_; rintro e w1 ⟨rfl, rfl⟩)
          | (go_at_call 53; refine (compact_nil _).mono ?_; rintro e w1 ⟨rfl, rfl⟩))
        go_ret
        exact ⟨_, [], [], rfl, World.ownsRow_nil _ _ _ _, rfl, List.Pairwise.nil, by rw [HNIL.out]; exact Keeps.refl _, HBW.out⟩
      · obtain ⟨g, cap2, rfl, hS⟩ := hown'.toS hnil
        have hln : (sgs p l).length ≤ 1152921504606846976 := by have := sgs_len p l; omega
        have HS := Lib.hid hS
        have hB := hS.lt.1
        clear hown hown' hnil
        go_wp2_with (first
          | (go_at_call 50; refine (sort_any _ _ _ _ _ _ HS.out hln).mono ?_; rintro e w1 ⟨rfl, ⟨Z, z1, z2, z3⟩, hg1⟩; have Z1 := Lib.hid z1; have Z2 := Lib.hid z2; have Z3 := Lib.hid z3; have G1 := Lib.hid hg1; clear z1 z2 z3 hg1)
          | (go_at_call 53; refine (compact_any _ _ _ _ _ _ Z3.out hln).mono ?_; rintro e w2 ⟨m, rfl, hD, hg2⟩; have HD := Lib.hid hD; have G2 := Lib.hid hg2; clear hD hg2))
        go_ret
        have hb1 : Below w.heap.size w w1 := Below.grown HBW.out G1.out HBW.out.size (fun j hj => by have := Option.some.inj hj; omega)
        have hb2 : Below w.heap.size w w2 := Below.grown hb1 G2.out hb1.size (fun j hj => by have := Option.some.inj hj; omega)
        obtain ⟨rfl, hrow⟩ := HD.out
        exact ⟨_, dedup Z, Z, rfl, owns_mono hrow (by omega), rfl, Z1.out, Z2.out, hb2⟩
end Go.Proofs.Ytkecjopojnllnaa
