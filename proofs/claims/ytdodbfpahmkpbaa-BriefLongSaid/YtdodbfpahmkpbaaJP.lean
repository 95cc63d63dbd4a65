/- The reference's instruction of a word (my own, from the seat of package decode), JP. -/
import Derived.Test.YtdodbfpahmkpbaaJO
namespace Go.Proofs.Ytdodbfpahmkpbaa
open Go.RowKit Go.Deep Go.Joins
theorem plain_at (o p q r s : Int) (W : World) (h0 : 1 ≤ o ∧ o ≤ 98) :
    Calls Try.prog 28 #[.agg #[.int .i64 o, .int .i64 p, .int .i64 q, .int .i64 r, .int .i64 s]] W fun e W' => e = .returned (.agg #[.int .i64 (plainI ⟨o, p, q, r, s⟩).op, .int .i64 (plainI ⟨o, p, q, r, s⟩).rd, .int .i64 (plainI ⟨o, p, q, r, s⟩).rs1, .int .i64 (plainI ⟨o, p, q, r, s⟩).rs2, .int .i64 (plainI ⟨o, p, q, r, s⟩).imm]) ∧ Below W.heap.size W W' :=
  plain_any ⟨o, p, q, r, s⟩ W h0.1 h0.2
theorem below3 (w : World) (a b c : Obj) : Below w.heap.size w (((w.alloc a).alloc b).alloc c) := (below2 w a b).alloc (by simp; omega) _
/-- The result's cells, and the variable's. -/
structure Two (W w2 : World) (p q r : Int) : Prop where
  fr : Fresh W w2
  lt : W.heap.size + 1 < w2.heap.size
  a0 : w2.cell? ⟨W.heap.size + 1, 0, none⟩ = some (.int .i64 0)
  a1 : w2.cell? ⟨W.heap.size + 1, 1, none⟩ = some (.int .i64 p)
  a2 : w2.cell? ⟨W.heap.size + 1, 2, none⟩ = some (.int .i64 q)
  a3 : w2.cell? ⟨W.heap.size + 1, 3, none⟩ = some (.int .i64 r)
  a4 : w2.cell? ⟨W.heap.size + 1, 4, none⟩ = some (.int .i64 0)
  f : ∀ i, w2.frozen? ⟨W.heap.size + 1, i, none⟩ = false
theorem two_alloc (W : World) (p q r : Int) : Two W ((W.alloc (.cells #[.int .i64 0, .int .i64 0, .int .i64 0, .int .i64 0, .int .i64 0] 30)).alloc (.cells #[.int .i64 0, .int .i64 p, .int .i64 q, .int .i64 r, .int .i64 0] 30)) p q r := by
  refine ⟨(fresh_alloc W).alloc _, by simp, ?_, ?_, ?_, ?_, ?_, ?_⟩
  all_goals first | (intro i; simp; done) | (simp; done)
theorem Two.after {W w0 w1 : World} {p q r : Int} (h : Two W w0 p q r) (hb : Below w0.heap.size w0 w1) : Two W w1 p q r :=
  ⟨h.fr.after hb, Nat.lt_of_lt_of_le h.lt hb.size, (hb.cell h.lt).trans h.a0, (hb.cell h.lt).trans h.a1, (hb.cell h.lt).trans h.a2, (hb.cell h.lt).trans h.a3, (hb.cell h.lt).trans h.a4, fun i => (hb.frozen h.lt).trans (h.f i)⟩
theorem Fresh.set {W w : World} (h : Fresh W w) (i : Nat) (v : Value) : Fresh W (w.setCell ⟨W.heap.size + 1, i, none⟩ v) := by
  have ne : ∀ j : Nat, (⟨W.heap.size + 1, i, none⟩ : Addr) ≠ ⟨W.heap.size, j, none⟩ := fun j e => by injection e; omega
  refine ⟨h.b.setCell (by simp) _, by simpa using h.lt, ?_, ?_, ?_, ?_, ?_, ?_⟩
  · exact (World.cell?_setCell_other _ _ _ _ (ne 0)).trans h.c0
  · exact (World.cell?_setCell_other _ _ _ _ (ne 1)).trans h.c1
  · exact (World.cell?_setCell_other _ _ _ _ (ne 2)).trans h.c2
  · exact (World.cell?_setCell_other _ _ _ _ (ne 3)).trans h.c3
  · exact (World.cell?_setCell_other _ _ _ _ (ne 4)).trans h.c4
  · intro j
    simpa using h.f j
theorem u_and (w : Nat) (hw : w < 4294967296) : bits .and .u32 (w : Int) 4294963200 = ((cutN w 12 20 * 4096 : Nat) : Int) := by
  rw [← and_high w hw]
  exact u32_and_nat w 4294963200 hw (by omega)
theorem u_imm (w : Nat) : wrap32 ((cutN w 12 20 * 4096 : Nat) : Int) = immU w := by
  have h1 := lt_31_1 w
  have h2 : cutN w 31 1 = cutN w 12 20 / 524288 := by unfold cutN; omega
  have h3 := lt_12_20 w
  unfold wrap32 immU
  rw [h2]
  omega
theorem pk_0 (i : Nat) (h8 : i < 8) (g : Nat) (W : World) (hg : W.heap.size = g) :
    Calls Try.prog 19 #[.int .u32 i, .slice (some ⟨g, 0, none⟩) 8 8] (W.alloc (.cells #[.int .i64 5, .int .i64 6, .int .i64 0, .int .i64 0, .int .i64 7, .int .i64 8, .int .i64 9, .int .i64 10] 3)) fun e w' => e = .returned (.int .i64 (row 0 i)) ∧ W.alloc (.cells #[.int .i64 5, .int .i64 6, .int .i64 0, .int .i64 0, .int .i64 7, .int .i64 8, .int .i64 9, .int .i64 10] 3) = w' := by
  subst hg
  exact pick_0 i h8 W
theorem pk_1 (i : Nat) (h8 : i < 8) (g : Nat) (W : World) (hg : W.heap.size = g) :
    Calls Try.prog 19 #[.int .u32 i, .slice (some ⟨g, 0, none⟩) 7 7] (W.alloc (.cells #[.int .i64 11, .int .i64 12, .int .i64 13, .int .i64 14, .int .i64 15, .int .i64 16, .int .i64 17] 3)) fun e w' => e = .returned (.int .i64 (row 1 i)) ∧ W.alloc (.cells #[.int .i64 11, .int .i64 12, .int .i64 13, .int .i64 14, .int .i64 15, .int .i64 16, .int .i64 17] 3) = w' := by
  subst hg
  exact pick_1 i h8 W
theorem pk_2 (i : Nat) (h8 : i < 8) (g : Nat) (W : World) (hg : W.heap.size = g) :
    Calls Try.prog 19 #[.int .u32 i, .slice (some ⟨g, 0, none⟩) 4 4] (W.alloc (.cells #[.int .i64 18, .int .i64 19, .int .i64 20, .int .i64 21] 3)) fun e w' => e = .returned (.int .i64 (row 2 i)) ∧ W.alloc (.cells #[.int .i64 18, .int .i64 19, .int .i64 20, .int .i64 21] 3) = w' := by
  subst hg
  exact pick_2 i h8 W
theorem pk_3 (i : Nat) (h8 : i < 8) (g : Nat) (W : World) (hg : W.heap.size = g) :
    Calls Try.prog 19 #[.int .u32 i, .slice (some ⟨g, 0, none⟩) 2 2] (W.alloc (.cells #[.int .i64 50, .int .i64 51] 3)) fun e w' => e = .returned (.int .i64 (row 3 i)) ∧ W.alloc (.cells #[.int .i64 50, .int .i64 51] 3) = w' := by
  subst hg
  exact pick_3 i h8 W
theorem pk_12 (i : Nat) (h8 : i < 8) (g : Nat) (W : World) (hg : W.heap.size = g) :
    Calls Try.prog 19 #[.int .u32 i, .slice (some ⟨g, 0, none⟩) 1 1] (W.alloc (.cells #[.int .i64 4] 3)) fun e w' => e = .returned (.int .i64 (r4 i)) ∧ W.alloc (.cells #[.int .i64 4] 3) = w' := by
  subst hg
  exact pick_12 i h8 W
end Go.Proofs.Ytdodbfpahmkpbaa
