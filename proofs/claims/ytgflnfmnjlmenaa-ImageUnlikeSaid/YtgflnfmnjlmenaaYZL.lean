/- Registers of numbers. -/
import Derived.Test.YtgflnfmnjlmenaaYZK
namespace Go
open Go.RowKit Go.Deep Go.Joins
theorem exec_build16 {P : Program} {ρ : Operand → Value} {o : Oper} {t : TypeId} {i0 i1 i2 i3 i4 i5 i6 i7 i8 i9 i10 i11 i12 i13 i14 i15 : Nat} {x0 x1 x2 x3 x4 x5 x6 x7 x8 x9 x10 x11 x12 x13 x14 x15 : Operand} {v0 v1 v2 v3 v4 v5 v6 v7 v8 v9 v10 v11 v12 v13 v14 v15 : Value} {cells : Array Value} {w : World} (ho : o.op = .build t #[(i0, x0), (i1, x1), (i2, x2), (i3, x3), (i4, x4), (i5, x5), (i6, x6), (i7, x7), (i8, x8), (i9, x9), (i10, x10), (i11, x11), (i12, x12), (i13, x13), (i14, x14), (i15, x15)]) (h0 : ρ x0 = v0) (h1 : ρ x1 = v1) (h2 : ρ x2 = v2) (h3 : ρ x3 = v3) (h4 : ρ x4 = v4) (h5 : ρ x5 = v5) (h6 : ρ x6 = v6) (h7 : ρ x7 = v7) (h8 : ρ x8 = v8) (h9 : ρ x9 = v9) (h10 : ρ x10 = v10) (h11 : ρ x11 = v11) (h12 : ρ x12 = v12) (h13 : ρ x13 = v13) (h14 : ρ x14 = v14) (h15 : ρ x15 = v15) (h : P.built t [(i0, v0), (i1, v1), (i2, v2), (i3, v3), (i4, v4), (i5, v5), (i6, v6), (i7, v7), (i8, v8), (i9, v9), (i10, v10), (i11, v11), (i12, v12), (i13, v13), (i14, v14), (i15, v15)] = some cells) : (execOp ρ o).run P w = .ok (.value (.agg cells)) w := by
  simp [execOp, ho, h0, h1, h2, h3, h4, h5, h6, h7, h8, h9, h10, h11, h12, h13, h14, h15, run_build w t #[(i0, v0), (i1, v1), (i2, v2), (i3, v3), (i4, v4), (i5, v5), (i6, v6), (i7, v7), (i8, v8), (i9, v9), (i10, v10), (i11, v11), (i12, v12), (i13, v13), (i14, v14), (i15, v15)] cells h, Result.andThen]
theorem exec_build9 {P : Program} {ρ : Operand → Value} {o : Oper} {t : TypeId} {i0 i1 i2 i3 i4 i5 i6 i7 i8 : Nat} {x0 x1 x2 x3 x4 x5 x6 x7 x8 : Operand} {v0 v1 v2 v3 v4 v5 v6 v7 v8 : Value} {cells : Array Value} {w : World} (ho : o.op = .build t #[(i0, x0), (i1, x1), (i2, x2), (i3, x3), (i4, x4), (i5, x5), (i6, x6), (i7, x7), (i8, x8)]) (h0 : ρ x0 = v0) (h1 : ρ x1 = v1) (h2 : ρ x2 = v2) (h3 : ρ x3 = v3) (h4 : ρ x4 = v4) (h5 : ρ x5 = v5) (h6 : ρ x6 = v6) (h7 : ρ x7 = v7) (h8 : ρ x8 = v8) (h : P.built t [(i0, v0), (i1, v1), (i2, v2), (i3, v3), (i4, v4), (i5, v5), (i6, v6), (i7, v7), (i8, v8)] = some cells) : (execOp ρ o).run P w = .ok (.value (.agg cells)) w := by
  simp [execOp, ho, h0, h1, h2, h3, h4, h5, h6, h7, h8, run_build w t #[(i0, v0), (i1, v1), (i2, v2), (i3, v3), (i4, v4), (i5, v5), (i6, v6), (i7, v7), (i8, v8)] cells h, Result.andThen]
theorem exec_build4 {P : Program} {ρ : Operand → Value} {o : Oper} {t : TypeId} {i0 i1 i2 i3 : Nat} {x0 x1 x2 x3 : Operand} {v0 v1 v2 v3 : Value} {cells : Array Value} {w : World} (ho : o.op = .build t #[(i0, x0), (i1, x1), (i2, x2), (i3, x3)]) (h0 : ρ x0 = v0) (h1 : ρ x1 = v1) (h2 : ρ x2 = v2) (h3 : ρ x3 = v3) (h : P.built t [(i0, v0), (i1, v1), (i2, v2), (i3, v3)] = some cells) : (execOp ρ o).run P w = .ok (.value (.agg cells)) w := by
  simp [execOp, ho, h0, h1, h2, h3, run_build w t #[(i0, v0), (i1, v1), (i2, v2), (i3, v3)] cells h, Result.andThen]
theorem exec_build2 {P : Program} {ρ : Operand → Value} {o : Oper} {t : TypeId} {i0 i1 : Nat} {x0 x1 : Operand} {v0 v1 : Value} {cells : Array Value} {w : World} (ho : o.op = .build t #[(i0, x0), (i1, x1)]) (h0 : ρ x0 = v0) (h1 : ρ x1 = v1) (h : P.built t [(i0, v0), (i1, v1)] = some cells) : (execOp ρ o).run P w = .ok (.value (.agg cells)) w := by
  simp [execOp, ho, h0, h1, run_build w t #[(i0, v0), (i1, v1)] cells h, Result.andThen]
theorem exec_build1 {P : Program} {ρ : Operand → Value} {o : Oper} {t : TypeId} {i0 : Nat} {x0 : Operand} {v0 : Value} {cells : Array Value} {w : World} (ho : o.op = .build t #[(i0, x0)]) (h0 : ρ x0 = v0) (h : P.built t [(i0, v0)] = some cells) : (execOp ρ o).run P w = .ok (.value (.agg cells)) w := by
  simp [execOp, ho, h0, run_build w t #[(i0, v0)] cells h, Result.andThen]
end Go
namespace Go.Proofs.Ytgflnfmnjlmenaa
open Go.RowKit Go.Deep Go.Joins
set_option maxRecDepth 100000
theorem ld_u {w : World} {a : Addr} {x : Int} (h : w.cell? a = some (.int .u64 x)) : (Instr.loadAt 22 (.pointer (some a))).run Try.prog w = .ok (.int .u64 x) w := by
  have hagg : (isAgg 22).run Try.prog w = .ok false w := by
    unfold isAgg
    rw [Sem.run_bind, run_underlying Try.underlying22 w]
    rfl
  simp [Instr.loadAt, Instr.sureAddr, loadVar, Sem.run_bind, hagg, h]
def nt (L : List Int) (j : Nat) : Int := L.getD j 0
/-- The numbers of a row that can be read. -/
def Cu (w : World) (g off : Nat) (L : List Int) : Prop := ∀ j, j < L.length → w.cell? ⟨g, off + j, none⟩ = some (.int .u64 (nt L j))
theorem Cu.next {w w' : World} {g off : Nat} {L : List Int} (h : Cu w g off L) (hg : g < w.heap.size) (hb : Below w.heap.size w w') : Cu w' g off L := fun j hj => (hb.cell (p := ⟨g, off + j, none⟩) hg).trans (h j hj)
theorem cu_of {w : World} {p : Option Addr} {c : Nat} {L : List Int} (h : MAt w (.slice p L.length c) L) (h0 : 0 < L.length) : ∃ g off, p = some ⟨g, off, none⟩ ∧ g < w.heap.size ∧ Cu w g off L := by
  obtain ⟨g, off, e, hg, hc⟩ := MAt.cell' h h0
  exact ⟨g, off, e, hg, fun j hj => by rw [hc j hj, nt, List.getD_eq_getElem?_getD, List.getElem?_eq_getElem hj]; rfl⟩
def regF (L : List Int) : Reg := ⟨nt L 0, nt L 1, nt L 2, nt L 3, nt L 4, nt L 5, nt L 6, nt L 7, nt L 8, nt L 9, nt L 10, nt L 11, nt L 12, nt L 13, nt L 14, nt L 15⟩
theorem built25 (a0 a1 a2 a3 a4 a5 a6 a7 a8 a9 a10 a11 a12 a13 a14 a15 : Int) : Try.prog.built 25 [(0, .int .u64 a0), (1, .int .u64 a1), (2, .int .u64 a2), (3, .int .u64 a3), (4, .int .u64 a4), (5, .int .u64 a5), (6, .int .u64 a6), (7, .int .u64 a7), (8, .int .u64 a8), (9, .int .u64 a9), (10, .int .u64 a10), (11, .int .u64 a11), (12, .int .u64 a12), (13, .int .u64 a13), (14, .int .u64 a14), (15, .int .u64 a15)] = some #[.int .u64 a0, .int .u64 a1, .int .u64 a2, .int .u64 a3, .int .u64 a4, .int .u64 a5, .int .u64 a6, .int .u64 a7, .int .u64 a8, .int .u64 a9, .int .u64 a10, .int .u64 a11, .int .u64 a12, .int .u64 a13, .int .u64 a14, .int .u64 a15] := by kernel_rfl
set_option maxHeartbeats 4000000 in
theorem tocsr_any (p : Option Addr) (c : Nat) (L : List Int) (W : World) (hm : MAt W (.slice p L.length c) L) (hl : 16 ≤ L.length) : Calls Try.prog 45 #[.slice p L.length c] W fun e W' => e = .returned (regV (regF L)) ∧ Below W.heap.size W W' := by
  obtain ⟨g, off, rfl, hg, hc⟩ := cu_of hm (by omega)
  have C := Lib.hid (fun w' (hb : Below W.heap.size W w') => hc.next hg hb)
  have g0 : 0 < L.length := by omega
  have i0 : (0 : Int) < (L.length : Int) := by omega
  have g1 : 1 < L.length := by omega
  have i1 : (1 : Int) < (L.length : Int) := by omega
  have g2 : 2 < L.length := by omega
  have i2 : (2 : Int) < (L.length : Int) := by omega
  have g3 : 3 < L.length := by omega
  have i3 : (3 : Int) < (L.length : Int) := by omega
  have g4 : 4 < L.length := by omega
  have i4 : (4 : Int) < (L.length : Int) := by omega
  have g5 : 5 < L.length := by omega
  have i5 : (5 : Int) < (L.length : Int) := by omega
  have g6 : 6 < L.length := by omega
  have i6 : (6 : Int) < (L.length : Int) := by omega
  have g7 : 7 < L.length := by omega
  have i7 : (7 : Int) < (L.length : Int) := by omega
  have g8 : 8 < L.length := by omega
  have i8 : (8 : Int) < (L.length : Int) := by omega
  have g9 : 9 < L.length := by omega
  have i9 : (9 : Int) < (L.length : Int) := by omega
  have g10 : 10 < L.length := by omega
  have i10 : (10 : Int) < (L.length : Int) := by omega
  have g11 : 11 < L.length := by omega
  have i11 : (11 : Int) < (L.length : Int) := by omega
  have g12 : 12 < L.length := by omega
  have i12 : (12 : Int) < (L.length : Int) := by omega
  have g13 : 13 < L.length := by omega
  have i13 : (13 : Int) < (L.length : Int) := by omega
  have g14 : 14 < L.length := by omega
  have i14 : (14 : Int) < (L.length : Int) := by omega
  have g15 : 15 < L.length := by omega
  have i15 : (15 : Int) < (L.length : Int) := by omega
  clear hm hc
  go_enter Try.func45, Try.ntmps45
  go_upto_region 1 with fail
  refine dr (fun w => Cu w g off L ∧ ∃ cs : Array Value, cs.size = 16 ∧ w.heap[W.heap.size]? = some (.cells cs 25 (0, 0))) fun wz hzz => ?_
  have B := Lib.hid (below_then (below1 W _) hzz)
  have hS : Cu wz g off L ∧ ∃ cs : Array Value, cs.size = 16 ∧ wz.heap[W.heap.size]? = some (.cells cs 25 (0, 0)) := ⟨C.out wz B.out, _, rfl, (hzz.block _ (by simp)).trans (heap_alloc_last W _)⟩
  refine tk 0 hS ?_
  refine tk 1 hS ?_
  refine tl 2 hS (fun w hw => ld_u (hw.1 0 (by omega))) ?_
  refine tk 3 hS ?_
  refine tk 4 hS ?_
  refine tl 5 hS (fun w hw => ld_u (hw.1 1 (by omega))) ?_
  refine tk 6 hS ?_
  refine tk 7 hS ?_
  refine tl 8 hS (fun w hw => ld_u (hw.1 2 (by omega))) ?_
  refine tk 9 hS ?_
  refine tk 10 hS ?_
  refine tl 11 hS (fun w hw => ld_u (hw.1 3 (by omega))) ?_
  refine tk 12 hS ?_
  refine tk 13 hS ?_
  refine tl 14 hS (fun w hw => ld_u (hw.1 4 (by omega))) ?_
  refine tk 15 hS ?_
  refine tk 16 hS ?_
  refine tl 17 hS (fun w hw => ld_u (hw.1 5 (by omega))) ?_
  refine tk 18 hS ?_
  refine tk 19 hS ?_
  refine tl 20 hS (fun w hw => ld_u (hw.1 6 (by omega))) ?_
  refine tk 21 hS ?_
  refine tk 22 hS ?_
  refine tl 23 hS (fun w hw => ld_u (hw.1 7 (by omega))) ?_
  refine tk 24 hS ?_
  refine tk 25 hS ?_
  refine tl 26 hS (fun w hw => ld_u (hw.1 8 (by omega))) ?_
  refine tk 27 hS ?_
  refine tk 28 hS ?_
  refine tl 29 hS (fun w hw => ld_u (hw.1 9 (by omega))) ?_
  refine tk 30 hS ?_
  refine tk 31 hS ?_
  refine tl 32 hS (fun w hw => ld_u (hw.1 10 (by omega))) ?_
  refine tk 33 hS ?_
  refine tk 34 hS ?_
  refine tl 35 hS (fun w hw => ld_u (hw.1 11 (by omega))) ?_
  refine tk 36 hS ?_
  refine tk 37 hS ?_
  refine tl 38 hS (fun w hw => ld_u (hw.1 12 (by omega))) ?_
  refine tk 39 hS ?_
  refine tk 40 hS ?_
  refine tl 41 hS (fun w hw => ld_u (hw.1 13 (by omega))) ?_
  refine tk 42 hS ?_
  refine tk 43 hS ?_
  refine tl 44 hS (fun w hw => ld_u (hw.1 14 (by omega))) ?_
  refine tk 45 hS ?_
  refine tk 46 hS ?_
  refine tl 47 hS (fun w hw => ld_u (hw.1 15 (by omega))) ?_
  refine tk 48 hS ?_ (hy := by exact .inl ⟨by kernel_rfl, fun w _ => exec_build16 rfl rfl rfl rfl rfl rfl rfl rfl rfl rfl rfl rfl rfl rfl rfl rfl rfl (built25 _ _ _ _ _ _ _ _ _ _ _ _ _ _ _ _)⟩)
  skip
  obtain ⟨cs, hcs, hh⟩ := hS.2
  have hst : (Instr.storeAt 25 (.pointer (some ⟨W.heap.size, 0, none⟩)) (regV (regF L))).run Try.prog wz = .ok () (wz.setRow W.heap.size (regC (regF L))) :=
    run_storeVar_row (P := Try.prog) wz W.heap.size 25 25 cs (regC (regF L)) hh (by rw [size25]; rfl) (by rw [hcs]; rfl) (by simp [Value.oneCell'])
  refine hs 49 hst fun wy hw => ?_
  have hb : Below W.heap.size W wy := by subst hw; exact below_setRow B.out (Nat.le_refl _) _
  have hr : wy.heap[W.heap.size]? = some (.cells (regC (regF L)) 25 (0, 0)) := by subst hw; exact setRow_heap wz W.heap.size cs _ 25 (0, 0) hh
  refine ⟨⟨C.out wy hb, _, rfl, hr⟩, fun hS => ?_⟩
  refine wpAnyH_done (by kernel_rfl) ?_ _
  have R := Lib.hid (And.intro hr hb)
  clear hS hst hw hb hr hh
  go_wp2_with fail
  refine bodyPost_ret (v := regV (regF L)) (results_cell_row Try.results45 _ _ W.heap.size 25 (regC (regF L)) (0, 0) _ rfl R.out.1 Try.underlying25 rfl (by rw [size25]; rfl)) rfl ⟨rfl, R.out.2⟩
end Go.Proofs.Ytgflnfmnjlmenaa
