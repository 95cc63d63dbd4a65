/- Devices of numbers. -/
import Derived.Test.YtgflnfmnjlmenaaYZL
namespace Go.Proofs.Ytgflnfmnjlmenaa
open Go.RowKit Go.Deep Go.Joins
set_option maxRecDepth 100000
def dvF (L : List Int) : Bd := { bdZ with msip := nt L 0 == 1, cmp := nt L 1, ier := nt L 2 == 1, sector := nt L 3, addr := nt L 4, done := nt L 5 == 1, bad := nt L 6 == 1, nicA := nt L 7, nicL := nt L 8 }
theorem built35 (a0 a2 a5 a6 : Bool) (a1 a3 a4 a7 a8 : Int) : Try.prog.built 35 [(0, .bool a0), (1, .int .u64 a1), (3, .bool a2), (5, .int .u64 a3), (6, .int .u64 a4), (7, .bool a5), (8, .bool a6), (10, .int .u64 a7), (11, .int .u64 a8)] = some (bdC { bdZ with msip := a0, cmp := a1, ier := a2, sector := a3, addr := a4, done := a5, bad := a6, nicA := a7, nicL := a8 }) := by kernel_rfl
set_option maxHeartbeats 4000000 in
theorem todev_any (p : Option Addr) (c : Nat) (L : List Int) (W : World) (hm : MAt W (.slice p L.length c) L) (hl : 9 ≤ L.length) : Calls Try.prog 38 #[.slice p L.length c] W fun e W' => e = .returned (bdV (dvF L)) ∧ Below W.heap.size W W' := by
  obtain ⟨g, off, rfl, hg, hc⟩ := cu_of hm (by omega)
  have C := Lib.hid (fun w' (hb : Below W.heap.size W w') => hc.next hg hb)
  have g0 : 0 < L.length := by omega
  have i0 : (0 : Int) < (L.length : Int) := by omega
  have g1 : 1 < L.length := by omega
  have i1 : (1 : Int) < (L.length : Int) := by omega
  have g2 : 2 < L.length := by omega
  have i2 : (2 : Int) < (L.length : Int) := by omega
  have g3 : 3 < L.length := by omega
  have i3 : (3 : Int) < (L.length : Int) := by omega
  have g4 : 4 < L.length := by omega
  have i4 : (4 : Int) < (L.length : Int) := by omega
  have g5 : 5 < L.length := by omega
  have i5 : (5 : Int) < (L.length : Int) := by omega
  have g6 : 6 < L.length := by omega
  have i6 : (6 : Int) < (L.length : Int) := by omega
  have g7 : 7 < L.length := by omega
  have i7 : (7 : Int) < (L.length : Int) := by omega
  have g8 : 8 < L.length := by omega
  have i8 : (8 : Int) < (L.length : Int) := by omega
  clear hm hc
  go_enter Try.func38, Try.ntmps38
  go_upto_region 1 with fail
  refine dr (fun w => Cu w g off L ∧ ∃ cs : Array Value, cs.size = 21 ∧ w.heap[W.heap.size]? = some (.cells cs 35 (0, 0))) fun wz hzz => ?_
  have B := Lib.hid (below_then (below1 W _) hzz)
  have hS : Cu wz g off L ∧ ∃ cs : Array Value, cs.size = 21 ∧ wz.heap[W.heap.size]? = some (.cells cs 35 (0, 0)) := ⟨C.out wz B.out, _, rfl, (hzz.block _ (by simp)).trans (heap_alloc_last W _)⟩
  refine tk 0 hS ?_
  refine tk 1 hS ?_
  refine tl 2 hS (fun w hw => ld_u (hw.1 0 (by omega))) ?_
  refine tk 3 hS ?_
  refine tk 4 hS ?_
  refine tk 5 hS ?_
  refine tl 6 hS (fun w hw => ld_u (hw.1 1 (by omega))) ?_
  refine tk 7 hS ?_
  refine tk 8 hS ?_
  refine tl 9 hS (fun w hw => ld_u (hw.1 2 (by omega))) ?_
  refine tk 10 hS ?_
  refine tk 11 hS ?_
  refine tk 12 hS ?_
  refine tl 13 hS (fun w hw => ld_u (hw.1 3 (by omega))) ?_
  refine tk 14 hS ?_
  refine tk 15 hS ?_
  refine tl 16 hS (fun w hw => ld_u (hw.1 4 (by omega))) ?_
  refine tk 17 hS ?_
  refine tk 18 hS ?_
  refine tl 19 hS (fun w hw => ld_u (hw.1 5 (by omega))) ?_
  refine tk 20 hS ?_
  refine tk 21 hS ?_
  refine tk 22 hS ?_
  refine tl 23 hS (fun w hw => ld_u (hw.1 6 (by omega))) ?_
  refine tk 24 hS ?_
  refine tk 25 hS ?_
  refine tk 26 hS ?_
  refine tl 27 hS (fun w hw => ld_u (hw.1 7 (by omega))) ?_
  refine tk 28 hS ?_
  refine tk 29 hS ?_
  refine tl 30 hS (fun w hw => ld_u (hw.1 8 (by omega))) ?_
  refine tk 31 hS ?_ (hy := by exact .inl ⟨by kernel_rfl, fun w _ => exec_build9 rfl rfl rfl rfl rfl rfl rfl rfl rfl rfl (built35 _ _ _ _ _ _ _ _ _)⟩)
  obtain ⟨cs, hcs, hh⟩ := hS.2
  have hst : (Instr.storeAt 35 (.pointer (some ⟨W.heap.size, 0, none⟩)) (.agg (bdC (dvF L)))).run Try.prog wz = .ok () (wz.setRow W.heap.size (bdC (dvF L))) :=
    run_storeVar_row (P := Try.prog) wz W.heap.size 35 35 cs (bdC (dvF L)) hh (by rw [size35]; rw [bdC_size]) (by rw [hcs]; rw [bdC_size]) (bd_one _)
  refine hs 32 hst fun wy hw => ?_
  have hb : Below W.heap.size W wy := by subst hw; exact below_setRow B.out (Nat.le_refl _) _
  have hr : wy.heap[W.heap.size]? = some (.cells (bdC (dvF L)) 35 (0, 0)) := by subst hw; exact setRow_heap wz W.heap.size cs _ 35 (0, 0) hh
  refine ⟨⟨C.out wy hb, _, rfl, hr⟩, fun hS => ?_⟩
  refine wpAnyH_done (by kernel_rfl) ?_ _
  have R := Lib.hid (And.intro hr hb)
  clear hS hst hw hb hr hh
  go_wp2_with fail
  refine bodyPost_ret (v := .agg (bdC (dvF L))) (results_cell_row Try.results38 _ _ W.heap.size 35 (bdC (dvF L)) (0, 0) _ rfl R.out.1 Try.underlying35 rfl (by rw [size35]; rw [bdC_size])) rfl ⟨rfl, R.out.2⟩
def plF (L : List Int) : Pl := ⟨0, IntKind.u32.wrap (nt L 0), IntKind.u32.wrap (nt L 1), IntKind.u32.wrap (nt L 2), IntKind.u32.wrap (nt L 3), IntKind.u32.wrap (nt L 4), IntKind.u32.wrap (nt L 5), IntKind.u32.wrap (nt L 6), IntKind.u32.wrap (nt L 7)⟩
theorem built30 (a b c : Int) : Try.prog.built 30 [(0, .int .u32 0), (1, .int .u32 a), (2, .int .u32 b), (3, .int .u32 c)] = some #[.int .u32 0, .int .u32 a, .int .u32 b, .int .u32 c] := by kernel_rfl
theorem built31 (a b : Int) : Try.prog.built 31 [(0, .int .u32 a), (1, .int .u32 b)] = some #[.int .u32 a, .int .u32 b] := by kernel_rfl
theorem built33 (a b c d e f g h : Int) : Try.prog.built 33 [(0, .agg #[.int .u32 0, .int .u32 a, .int .u32 b, .int .u32 c]), (1, .agg #[.int .u32 d, .int .u32 e]), (2, .agg #[.int .u32 f, .int .u32 g]), (3, .int .u32 h)] = some (plC ⟨0, a, b, c, d, e, f, g, h⟩) := by kernel_rfl
set_option maxHeartbeats 4000000 in
theorem toplic_any (p : Option Addr) (c : Nat) (L : List Int) (W : World) (hm : MAt W (.slice p L.length c) L) (hl : 8 ≤ L.length) : Calls Try.prog 39 #[.slice p L.length c] W fun e W' => e = .returned (.agg (plC (plF L))) ∧ Below W.heap.size W W' := by
  obtain ⟨g, off, rfl, hg, hc⟩ := cu_of hm (by omega)
  have C := Lib.hid (fun w' (hb : Below W.heap.size W w') => hc.next hg hb)
  have g0 : 0 < L.length := by omega
  have i0 : (0 : Int) < (L.length : Int) := by omega
  have g1 : 1 < L.length := by omega
  have i1 : (1 : Int) < (L.length : Int) := by omega
  have g2 : 2 < L.length := by omega
  have i2 : (2 : Int) < (L.length : Int) := by omega
  have g3 : 3 < L.length := by omega
  have i3 : (3 : Int) < (L.length : Int) := by omega
  have g4 : 4 < L.length := by omega
  have i4 : (4 : Int) < (L.length : Int) := by omega
  have g5 : 5 < L.length := by omega
  have i5 : (5 : Int) < (L.length : Int) := by omega
  have g6 : 6 < L.length := by omega
  have i6 : (6 : Int) < (L.length : Int) := by omega
  have g7 : 7 < L.length := by omega
  have i7 : (7 : Int) < (L.length : Int) := by omega
  clear hm hc
  go_enter Try.func39, Try.ntmps39
  go_upto_region 1 with fail
  refine dr (fun w => Cu w g off L ∧ ∃ cs : Array Value, cs.size = 9 ∧ w.heap[W.heap.size]? = some (.cells cs 33 (0, 0))) fun wz hzz => ?_
  have B := Lib.hid (below_then (below1 W _) hzz)
  have hS : Cu wz g off L ∧ ∃ cs : Array Value, cs.size = 9 ∧ wz.heap[W.heap.size]? = some (.cells cs 33 (0, 0)) := ⟨C.out wz B.out, _, rfl, (hzz.block _ (by simp)).trans (heap_alloc_last W _)⟩
  refine tk 0 hS ?_
  refine tk 1 hS ?_
  refine tl 2 hS (fun w hw => ld_u (hw.1 0 (by omega))) ?_
  refine tk 3 hS ?_
  refine tk 4 hS ?_
  refine tk 5 hS ?_
  refine tl 6 hS (fun w hw => ld_u (hw.1 1 (by omega))) ?_
  refine tk 7 hS ?_
  refine tk 8 hS ?_
  refine tk 9 hS ?_
  refine tl 10 hS (fun w hw => ld_u (hw.1 2 (by omega))) ?_
  refine tk 11 hS ?_
  refine tk 12 hS ?_ (hy := by exact .inl ⟨by kernel_rfl, fun w _ => exec_build4 rfl rfl rfl rfl rfl (built30 _ _ _)⟩)
  refine tk 13 hS ?_
  refine tk 14 hS ?_
  refine tl 15 hS (fun w hw => ld_u (hw.1 3 (by omega))) ?_
  refine tk 16 hS ?_
  refine tk 17 hS ?_
  refine tk 18 hS ?_
  refine tl 19 hS (fun w hw => ld_u (hw.1 4 (by omega))) ?_
  refine tk 20 hS ?_
  refine tk 21 hS ?_ (hy := by exact .inl ⟨by kernel_rfl, fun w _ => exec_build2 rfl rfl rfl (built31 _ _)⟩)
  refine tk 22 hS ?_
  refine tk 23 hS ?_
  refine tl 24 hS (fun w hw => ld_u (hw.1 5 (by omega))) ?_
  refine tk 25 hS ?_
  refine tk 26 hS ?_
  refine tk 27 hS ?_
  refine tl 28 hS (fun w hw => ld_u (hw.1 6 (by omega))) ?_
  refine tk 29 hS ?_
  refine tk 30 hS ?_ (hy := by exact .inl ⟨by kernel_rfl, fun w _ => exec_build2 rfl rfl rfl (built31 _ _)⟩)
  refine tk 31 hS ?_
  refine tk 32 hS ?_
  refine tl 33 hS (fun w hw => ld_u (hw.1 7 (by omega))) ?_
  refine tk 34 hS ?_
  refine tk 35 hS ?_ (hy := by exact .inl ⟨by kernel_rfl, fun w _ => exec_build4 rfl rfl rfl rfl rfl (built33 _ _ _ _ _ _ _ _)⟩)
  obtain ⟨cs, hcs, hh⟩ := hS.2
  have hst : (Instr.storeAt 33 (.pointer (some ⟨W.heap.size, 0, none⟩)) (.agg (plC (plF L)))).run Try.prog wz = .ok () (wz.setRow W.heap.size (plC (plF L))) :=
    run_storeVar_row (P := Try.prog) wz W.heap.size 33 33 cs (plC (plF L)) hh (by rw [size33]; rfl) (by rw [hcs]; rfl) (Pc.pl_one _)
  refine hs 36 hst fun wy hw => ?_
  have hb : Below W.heap.size W wy := by subst hw; exact below_setRow B.out (Nat.le_refl _) _
  have hr : wy.heap[W.heap.size]? = some (.cells (plC (plF L)) 33 (0, 0)) := by subst hw; exact setRow_heap wz W.heap.size cs _ 33 (0, 0) hh
  refine ⟨⟨C.out wy hb, _, rfl, hr⟩, fun hS => ?_⟩
  refine wpAnyH_done (by kernel_rfl) ?_ _
  have R := Lib.hid (And.intro hr hb)
  clear hS hst hw hb hr hh
  go_wp2_with fail
  refine bodyPost_ret (v := .agg (plC (plF L))) (results_cell_row Try.results39 _ _ W.heap.size 33 (plC (plF L)) (0, 0) _ rfl R.out.1 Try.underlying33 rfl (by rw [size33]; rfl)) rfl ⟨rfl, R.out.2⟩
end Go.Proofs.Ytgflnfmnjlmenaa
