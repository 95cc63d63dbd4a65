/- The reference's instruction of a word (my own, from the seat of package decode), JO. -/
import Derived.Test.YtdodbfpahmkpbaaJL
import Derived.Test.YtdodbfpahmkpbaaJM
namespace Go.Proofs.Ytdodbfpahmkpbaa
open Go.RowKit Go.Deep Go.Joins
theorem via2 {k w f : Nat} {W : World} {x : Int × Int} {p q : Int} (h : x = (p, q)) (hc : Calls Try.prog k #[.int .u32 w, .int .u32 f] W fun e W' => e = .returned (.tuple #[.int .i64 p, .int .i64 q]) ∧ Below W.heap.size W W') :
    Calls Try.prog k #[.int .u32 w, .int .u32 f] W fun e W' => e = .returned (.tuple #[.int .i64 x.1, .int .i64 x.2]) ∧ Below W.heap.size W W' := by
  rw [h]
  exact hc
theorem via1 {k w f : Nat} {W : World} {x p : Int} (h : x = p) (hc : Calls Try.prog k #[.int .u32 w, .int .u32 f] W fun e W' => e = .returned (.int .i64 p) ∧ Below W.heap.size W W') :
    Calls Try.prog k #[.int .u32 w, .int .u32 f] W fun e W' => e = .returned (.int .i64 x) ∧ Below W.heap.size W W' := by
  rw [h]
  exact hc
theorem qt {n c : Nat} (h : n = c) : ((n : Int) == (c : Int)) = true := by rw [beq_iff_eq]; omega
theorem qf {n c : Nat} (h : ¬ n = c) : ((n : Int) == (c : Int)) = false := by rw [beq_eq_false_iff_ne]; omega
theorem nt {n c : Nat} (h : ¬ n = c) : ((n : Int) != (c : Int)) = true := by rw [bne_iff_ne]; omega
theorem nf {n c : Nat} (h : n = c) : ((n : Int) != (c : Int)) = false := by rw [bne_eq_false_iff_eq]; omega
def rQuick (w f : Nat) : Int × Int :=
  if f = 1 then (if cutN w 26 6 = 0 then (28, (cutN w 20 6 : Nat)) else (0, 0))
  else if f = 5 then (if cutN w 26 6 = 0 then (29, (cutN w 20 6 : Nat)) else if cutN w 26 6 = 16 then (30, (cutN w 20 6 : Nat)) else (0, 0))
  else (row 4 f, immI w)
theorem quick_any (w f : Nat) (W : World) (hw : w < 4294967296) (hf : f < 8) : Calls Try.prog 22 #[.int .u32 w, .int .u32 f] W fun e W' => e = .returned (.tuple #[.int .i64 (rQuick w f).1, .int .i64 (rQuick w f).2]) ∧ Below W.heap.size W W' := by
  by_cases h1 : f = 1
  · by_cases t : cutN w 26 6 = 0
    · exact via2 (by unfold rQuick; rw [if_pos h1, if_pos t]) (quick_1a w f W hw hf (qt h1) (qt t))
    · exact via2 (by unfold rQuick; rw [if_pos h1, if_neg t]) (quick_1n w f W hw hf (qt h1) (qf t))
  by_cases h5 : f = 5
  · by_cases t : cutN w 26 6 = 0
    · exact via2 (by unfold rQuick; rw [if_neg h1, if_pos h5, if_pos t]) (quick_5a w f W hw hf (qf h1) (qt h5) (qt t))
    by_cases t1 : cutN w 26 6 = 16
    · exact via2 (by unfold rQuick; rw [if_neg h1, if_pos h5, if_neg t, if_pos t1]) (quick_5b w f W hw hf (qf h1) (qt h5) (qf t) (qt t1))
    · exact via2 (by unfold rQuick; rw [if_neg h1, if_pos h5, if_neg t, if_neg t1]) (quick_5n w f W hw hf (qf h1) (qt h5) (qf t) (qf t1))
  exact via2 (by unfold rQuick; rw [if_neg h1, if_neg h5]) (quick_e w f W hw hf (qf h1) (qf h5))
def rQW (w f : Nat) : Int × Int :=
  if f = 0 then (41, immI w)
  else if f = 1 ∧ cutN w 25 7 = 0 then (42, (cutN w 20 5 : Nat))
  else if f = 5 ∧ cutN w 25 7 = 0 then (43, (cutN w 20 5 : Nat))
  else if f = 5 ∧ cutN w 25 7 = 32 then (44, (cutN w 20 5 : Nat))
  else (0, 0)
theorem qw_any (w f : Nat) (W : World) (hw : w < 4294967296) (hf : f < 8) : Calls Try.prog 23 #[.int .u32 w, .int .u32 f] W fun e W' => e = .returned (.tuple #[.int .i64 (rQW w f).1, .int .i64 (rQW w f).2]) ∧ Below W.heap.size W W' := by
  by_cases h0 : f = 0
  · exact via2 (by unfold rQW; rw [if_pos h0]) (qw_0 w f W hw hf (qt h0))
  by_cases h1 : f = 1
  · have h5 : ¬ f = 5 := by omega
    by_cases t : cutN w 25 7 = 0
    · exact via2 (by unfold rQW; rw [if_neg h0, if_pos ⟨h1, t⟩]) (qw_1 w f W hw hf (qf h0) (qt h1) (qt t))
    · exact via2 (by unfold rQW; rw [if_neg h0, if_neg (fun h => t h.2), if_neg (fun h => t h.2), if_neg (fun h => h5 h.1)]) (qw_n1 w f W hw hf (qf h0) (qt h1) (qf h5) (qf t))
  by_cases h5 : f = 5
  · by_cases t : cutN w 25 7 = 0
    · exact via2 (by unfold rQW; rw [if_neg h0, if_neg (fun h => h1 h.1), if_pos ⟨h5, t⟩]) (qw_5 w f W hw hf (qf h0) (qf h1) (qt h5) (qt t))
    by_cases t1 : cutN w 25 7 = 32
    · exact via2 (by unfold rQW; rw [if_neg h0, if_neg (fun h => h1 h.1), if_neg (fun h => t h.2), if_pos ⟨h5, t1⟩]) (qw_5s w f W hw hf (qf h0) (qf h1) (qt h5) (qf t) (qt t1))
    · exact via2 (by unfold rQW; rw [if_neg h0, if_neg (fun h => h1 h.1), if_neg (fun h => t h.2), if_neg (fun h => t1 h.2)]) (qw_n5 w f W hw hf (qf h0) (qf h1) (qt h5) (qf t) (qf t1))
  exact via2 (by unfold rQW; rw [if_neg h0, if_neg (fun h => h1 h.1), if_neg (fun h => h5 h.1), if_neg (fun h => h5 h.1)]) (qw_n w f W hw hf (qf h0) (qf h1) (qf h5))
theorem three_any (w f : Nat) (W : World) (hw : w < 4294967296) (hf : f < 8) : Calls Try.prog 24 #[.int .u32 w, .int .u32 f] W fun e W' => e = .returned (.int .i64 (op33 f (cutN w 25 7))) ∧ Below W.heap.size W W' := by
  by_cases t0 : cutN w 25 7 = 0
  · exact via1 (by unfold op33; rw [if_pos t0]) (three_0 w f W hw hf (qt t0))
  by_cases t1 : cutN w 25 7 = 1
  · exact via1 (by unfold op33; rw [if_neg t0, if_pos t1]) (three_1 w f W hw hf (qf t0) (qt t1))
  by_cases t2 : cutN w 25 7 = 32
  · exact via1 (by unfold op33; rw [if_neg t0, if_neg t1, if_pos t2]) (three_32 w f W hw hf (qf t0) (qf t1) (qt t2))
  exact via1 (by unfold op33; rw [if_neg t0, if_neg t1, if_neg t2]) (three_n w f W hw hf (qf t0) (qf t1) (qf t2))
theorem threeW_any (w f : Nat) (W : World) (hw : w < 4294967296) (hf : f < 8) : Calls Try.prog 25 #[.int .u32 w, .int .u32 f] W fun e W' => e = .returned (.int .i64 (op3b f (cutN w 25 7))) ∧ Below W.heap.size W W' := by
  by_cases t0 : cutN w 25 7 = 0
  · exact via1 (by unfold op3b; rw [if_pos t0]) (threeW_0 w f W hw hf (qt t0))
  by_cases t1 : cutN w 25 7 = 1
  · exact via1 (by unfold op3b; rw [if_neg t0, if_pos t1]) (threeW_1 w f W hw hf (qf t0) (qt t1))
  by_cases t2 : cutN w 25 7 = 32
  · exact via1 (by unfold op3b; rw [if_neg t0, if_neg t1, if_pos t2]) (threeW_32 w f W hw hf (qf t0) (qf t1) (qt t2))
  exact via1 (by unfold op3b; rw [if_neg t0, if_neg t1, if_neg t2]) (threeW_n w f W hw hf (qf t0) (qf t1) (qf t2))
def rSys (w f : Nat) : Int × Int :=
  if ¬ f = 0 then (row 11 f, (cutN w 20 12 : Nat))
  else if w = 115 then (52, 0) else if w = 1048691 then (53, 0) else if w = 807403635 then (95, 0) else if w = 270532723 then (96, 0) else if w = 273678451 then (97, 0)
  else if cutN w 25 7 = 9 ∧ cutN w 7 5 = 0 then (98, 0)
  else (0, 0)
theorem rsys_any (w f : Nat) (W : World) (hw : w < 4294967296) (hf : f < 8) : Calls Try.prog 27 #[.int .u32 w, .int .u32 f] W fun e W' => e = .returned (.tuple #[.int .i64 (rSys w f).1, .int .i64 (rSys w f).2]) ∧ Below W.heap.size W W' := by
  by_cases h0 : f = 0
  · have h00 : ¬ ¬ f = 0 := fun h => h h0
    by_cases e0 : w = 115
    · exact via2 (by unfold rSys; rw [if_neg h00, if_pos e0]) (rsys_0 w f W hw hf (qt e0) (nf h0))
    by_cases e1 : w = 1048691
    · exact via2 (by unfold rSys; rw [if_neg h00, if_neg e0, if_pos e1]) (rsys_1 w f W hw hf (qf e0) (qt e1) (nf h0))
    by_cases e2 : w = 807403635
    · exact via2 (by unfold rSys; rw [if_neg h00, if_neg e0, if_neg e1, if_pos e2]) (rsys_2 w f W hw hf (qf e0) (qf e1) (qt e2) (nf h0))
    by_cases e3 : w = 270532723
    · exact via2 (by unfold rSys; rw [if_neg h00, if_neg e0, if_neg e1, if_neg e2, if_pos e3]) (rsys_3 w f W hw hf (qf e0) (qf e1) (qf e2) (qt e3) (nf h0))
    by_cases e4 : w = 273678451
    · exact via2 (by unfold rSys; rw [if_neg h00, if_neg e0, if_neg e1, if_neg e2, if_neg e3, if_pos e4]) (rsys_4 w f W hw hf (qf e0) (qf e1) (qf e2) (qf e3) (qt e4) (nf h0))
    by_cases t9 : cutN w 25 7 = 9
    · by_cases d0 : cutN w 7 5 = 0
      · exact via2 (by unfold rSys; rw [if_neg h00, if_neg e0, if_neg e1, if_neg e2, if_neg e3, if_neg e4, if_pos ⟨t9, d0⟩]) (rsys_f w f W hw hf (qf e0) (qf e1) (qf e2) (qf e3) (qf e4) (qt t9) (qt d0) (nf h0))
      · exact via2 (by unfold rSys; rw [if_neg h00, if_neg e0, if_neg e1, if_neg e2, if_neg e3, if_neg e4, if_neg (fun h => d0 h.2)]) (rsys_n2 w f W hw hf (qf e0) (qf e1) (qf e2) (qf e3) (qf e4) (qt t9) (qf d0) (nf h0))
    · exact via2 (by unfold rSys; rw [if_neg h00, if_neg e0, if_neg e1, if_neg e2, if_neg e3, if_neg e4, if_neg (fun h => t9 h.1)]) (rsys_n1 w f W hw hf (qf e0) (qf e1) (qf e2) (qf e3) (qf e4) (qf t9) (nf h0))
  exact via2 (by unfold rSys; rw [if_pos h0]) (rsys_r w f W hw hf (nt h0))
/-- The reference's atomic operation. -/
def rAtom (w f : Nat) : Int := if cutN w 27 5 = 2 ∧ ¬ cutN w 20 5 = 0 then 0 else opA f (cutN w 27 5)
theorem ratom_any (w f : Nat) (W : World) (hw : w < 4294967296) (hf : f < 8) : Calls Try.prog 26 #[.int .u32 w, .int .u32 f] W fun e W' => e = .returned (.int .i64 (rAtom w f)) ∧ Below W.heap.size W W' := by
  by_cases h2 : f = 2
  · have h3 : ¬ f = 3 := by omega
    by_cases n0 : cutN w 27 5 = 0
    · exact via1 (by unfold rAtom; rw [if_neg (fun h => by omega)]; unfold opA; rw [if_pos h2]; rw [n0]; rfl) (ratom_0_2 w f W hw hf  (qt n0) (nf h2) (qf h3))
    by_cases n1 : cutN w 27 5 = 1
    · exact via1 (by unfold rAtom; rw [if_neg (fun h => by omega)]; unfold opA; rw [if_pos h2]; rw [n1]; rfl) (ratom_1_2 w f W hw hf (qf n0) (qt n1) (nf h2) (qf h3))
    by_cases n2 : cutN w 27 5 = 2
    · by_cases z : cutN w 20 5 = 0
      · exact via1 (by unfold rAtom; rw [if_neg (fun h => h.2 z)]; unfold opA; rw [if_pos h2]; rw [n2]; rfl) (ratom_2_2 w f W hw hf (qf n0) (qf n1) (qt n2) (nf h2) (qf h3) (nf z))
      · exact via1 (by unfold rAtom; rw [if_pos ⟨n2, z⟩]) (ratom_2n_2 w f W hw hf (qf n0) (qf n1) (qt n2) (nf h2) (qf h3) (nt z))
    by_cases n3 : cutN w 27 5 = 3
    · exact via1 (by unfold rAtom; rw [if_neg (fun h => by omega)]; unfold opA; rw [if_pos h2]; rw [n3]; rfl) (ratom_3_2 w f W hw hf (qf n0) (qf n1) (qf n2) (qt n3) (nf h2) (qf h3))
    by_cases n4 : cutN w 27 5 = 4
    · exact via1 (by unfold rAtom; rw [if_neg (fun h => by omega)]; unfold opA; rw [if_pos h2]; rw [n4]; rfl) (ratom_4_2 w f W hw hf (qf n0) (qf n1) (qf n2) (qf n3) (qt n4) (nf h2) (qf h3))
    by_cases n8 : cutN w 27 5 = 8
    · exact via1 (by unfold rAtom; rw [if_neg (fun h => by omega)]; unfold opA; rw [if_pos h2]; rw [n8]; rfl) (ratom_8_2 w f W hw hf (qf n0) (qf n1) (qf n2) (qf n3) (qf n4) (qt n8) (nf h2) (qf h3))
    by_cases n12 : cutN w 27 5 = 12
    · exact via1 (by unfold rAtom; rw [if_neg (fun h => by omega)]; unfold opA; rw [if_pos h2]; rw [n12]; rfl) (ratom_12_2 w f W hw hf (qf n0) (qf n1) (qf n2) (qf n3) (qf n4) (qf n8) (qt n12) (nf h2) (qf h3))
    by_cases n16 : cutN w 27 5 = 16
    · exact via1 (by unfold rAtom; rw [if_neg (fun h => by omega)]; unfold opA; rw [if_pos h2]; rw [n16]; rfl) (ratom_16_2 w f W hw hf (qf n0) (qf n1) (qf n2) (qf n3) (qf n4) (qf n8) (qf n12) (qt n16) (nf h2) (qf h3))
    by_cases n20 : cutN w 27 5 = 20
    · exact via1 (by unfold rAtom; rw [if_neg (fun h => by omega)]; unfold opA; rw [if_pos h2]; rw [n20]; rfl) (ratom_20_2 w f W hw hf (qf n0) (qf n1) (qf n2) (qf n3) (qf n4) (qf n8) (qf n12) (qf n16) (qt n20) (nf h2) (qf h3))
    by_cases n24 : cutN w 27 5 = 24
    · exact via1 (by unfold rAtom; rw [if_neg (fun h => by omega)]; unfold opA; rw [if_pos h2]; rw [n24]; rfl) (ratom_24_2 w f W hw hf (qf n0) (qf n1) (qf n2) (qf n3) (qf n4) (qf n8) (qf n12) (qf n16) (qf n20) (qt n24) (nf h2) (qf h3))
    by_cases n28 : cutN w 27 5 = 28
    · exact via1 (by unfold rAtom; rw [if_neg (fun h => by omega)]; unfold opA; rw [if_pos h2]; rw [n28]; rfl) (ratom_28_2 w f W hw hf (qf n0) (qf n1) (qf n2) (qf n3) (qf n4) (qf n8) (qf n12) (qf n16) (qf n20) (qf n24) (qt n28) (nf h2) (qf h3))
    exact via1 (by unfold rAtom; rw [if_neg (fun h => n2 h.1)]; unfold opA; rw [if_pos h2]; unfold aW; rw [if_neg n0, if_neg n1, if_neg n2, if_neg n3, if_neg n4, if_neg n8, if_neg n12, if_neg n16, if_neg n20, if_neg n24, if_neg n28]) (ratom_n_2 w f W hw hf (qf n0) (qf n1) (qf n2) (qf n3) (qf n4) (qf n8) (qf n12) (qf n16) (qf n20) (qf n24) (qf n28) (nf h2) (qf h3))
  by_cases h3 : f = 3
  · by_cases n0 : cutN w 27 5 = 0
    · exact via1 (by unfold rAtom; rw [if_neg (fun h => by omega)]; unfold opA; rw [if_neg h2, if_pos h3]; rw [n0]; rfl) (ratom_0_3 w f W hw hf  (qt n0) (nt h2) (nf h3) (qt h3))
    by_cases n1 : cutN w 27 5 = 1
    · exact via1 (by unfold rAtom; rw [if_neg (fun h => by omega)]; unfold opA; rw [if_neg h2, if_pos h3]; rw [n1]; rfl) (ratom_1_3 w f W hw hf (qf n0) (qt n1) (nt h2) (nf h3) (qt h3))
    by_cases n2 : cutN w 27 5 = 2
    · by_cases z : cutN w 20 5 = 0
      · exact via1 (by unfold rAtom; rw [if_neg (fun h => h.2 z)]; unfold opA; rw [if_neg h2, if_pos h3]; rw [n2]; rfl) (ratom_2_3 w f W hw hf (qf n0) (qf n1) (qt n2) (nt h2) (nf h3) (qt h3) (nf z))
      · exact via1 (by unfold rAtom; rw [if_pos ⟨n2, z⟩]) (ratom_2n_3 w f W hw hf (qf n0) (qf n1) (qt n2) (nt h2) (nf h3) (qt h3) (nt z))
    by_cases n3 : cutN w 27 5 = 3
    · exact via1 (by unfold rAtom; rw [if_neg (fun h => by omega)]; unfold opA; rw [if_neg h2, if_pos h3]; rw [n3]; rfl) (ratom_3_3 w f W hw hf (qf n0) (qf n1) (qf n2) (qt n3) (nt h2) (nf h3) (qt h3))
    by_cases n4 : cutN w 27 5 = 4
    · exact via1 (by unfold rAtom; rw [if_neg (fun h => by omega)]; unfold opA; rw [if_neg h2, if_pos h3]; rw [n4]; rfl) (ratom_4_3 w f W hw hf (qf n0) (qf n1) (qf n2) (qf n3) (qt n4) (nt h2) (nf h3) (qt h3))
    by_cases n8 : cutN w 27 5 = 8
    · exact via1 (by unfold rAtom; rw [if_neg (fun h => by omega)]; unfold opA; rw [if_neg h2, if_pos h3]; rw [n8]; rfl) (ratom_8_3 w f W hw hf (qf n0) (qf n1) (qf n2) (qf n3) (qf n4) (qt n8) (nt h2) (nf h3) (qt h3))
    by_cases n12 : cutN w 27 5 = 12
    · exact via1 (by unfold rAtom; rw [if_neg (fun h => by omega)]; unfold opA; rw [if_neg h2, if_pos h3]; rw [n12]; rfl) (ratom_12_3 w f W hw hf (qf n0) (qf n1) (qf n2) (qf n3) (qf n4) (qf n8) (qt n12) (nt h2) (nf h3) (qt h3))
    by_cases n16 : cutN w 27 5 = 16
    · exact via1 (by unfold rAtom; rw [if_neg (fun h => by omega)]; unfold opA; rw [if_neg h2, if_pos h3]; rw [n16]; rfl) (ratom_16_3 w f W hw hf (qf n0) (qf n1) (qf n2) (qf n3) (qf n4) (qf n8) (qf n12) (qt n16) (nt h2) (nf h3) (qt h3))
    by_cases n20 : cutN w 27 5 = 20
    · exact via1 (by unfold rAtom; rw [if_neg (fun h => by omega)]; unfold opA; rw [if_neg h2, if_pos h3]; rw [n20]; rfl) (ratom_20_3 w f W hw hf (qf n0) (qf n1) (qf n2) (qf n3) (qf n4) (qf n8) (qf n12) (qf n16) (qt n20) (nt h2) (nf h3) (qt h3))
    by_cases n24 : cutN w 27 5 = 24
    · exact via1 (by unfold rAtom; rw [if_neg (fun h => by omega)]; unfold opA; rw [if_neg h2, if_pos h3]; rw [n24]; rfl) (ratom_24_3 w f W hw hf (qf n0) (qf n1) (qf n2) (qf n3) (qf n4) (qf n8) (qf n12) (qf n16) (qf n20) (qt n24) (nt h2) (nf h3) (qt h3))
    by_cases n28 : cutN w 27 5 = 28
    · exact via1 (by unfold rAtom; rw [if_neg (fun h => by omega)]; unfold opA; rw [if_neg h2, if_pos h3]; rw [n28]; rfl) (ratom_28_3 w f W hw hf (qf n0) (qf n1) (qf n2) (qf n3) (qf n4) (qf n8) (qf n12) (qf n16) (qf n20) (qf n24) (qt n28) (nt h2) (nf h3) (qt h3))
    exact via1 (by unfold rAtom; rw [if_neg (fun h => n2 h.1)]; unfold opA; rw [if_neg h2, if_pos h3]; unfold aD; rw [if_neg n0, if_neg n1, if_neg n2, if_neg n3, if_neg n4, if_neg n8, if_neg n12, if_neg n16, if_neg n20, if_neg n24, if_neg n28]) (ratom_n_3 w f W hw hf (qf n0) (qf n1) (qf n2) (qf n3) (qf n4) (qf n8) (qf n12) (qf n16) (qf n20) (qf n24) (qf n28) (nt h2) (nf h3) (qt h3))
  have e : opA f (cutN w 27 5) = 0 := by unfold opA; rw [if_neg h2, if_neg h3]
  exact via1 (by unfold rAtom; split <;> first | rfl | exact e) (ratom_no w f W hw hf (nt h2) (nt h3))
end Go.Proofs.Ytdodbfpahmkpbaa
