/- The traps. -/
import Derived.Test.YtjohcpokmdofkaaGreatDoorYTD
namespace Go.Proofs.YtjohcpokmdofkaaGreatDoor.Tr
open Go.RowKit Go.Deep Go.Joins
set_option maxRecDepth 100000
theorem results_two {fn : Func} {p u : Tmp} (h : fn.results = #[.cell p 27, .tmp u]) (tmps : Array Value) (w : World) (g : Nat) (k : Hart) (v : Value) (hp : tmps.getD p undef = .pointer (some ⟨g, 0, none⟩)) (hg : Box w g k) (hv : tmps.getD u undef = v) :
    (results fn tmps).run Tryz.prog w = .ok (.tuple #[hartV k, v]) w := by
  rw [results_cell_tmp h, hp, hv]
  simp [asAddr, Result.andThen, Box.result hg]
def toMidF (h : Hart) (t v : Int) : Hart := (⟨h.x, h.hx, entryV h.c.s10 t, 1, ⟨bits .andNot .u64 (wV (wV h.c.s0 256 (h.mode == 1)) 32 (nzV h.c.s0 2)) 2, h.c.s1, h.c.s2, h.c.s3, h.c.s4, h.c.s5, h.c.s6, h.c.s7, h.c.s8, h.c.s9, h.c.s10, h.c.s11, bits .andNot .u64 h.pc 1, t, v, h.c.s15⟩, h.held, h.rat⟩ : Hart)
def toUpF (h : Hart) (t v : Int) : Hart := (⟨h.x, h.hx, entryV h.c.s5 t, 3, ⟨bits .andNot .u64 (wV (bits .or .u64 (bits .andNot .u64 h.c.s0 6144) (bits .and .u64 (IntKind.u64.wrap (IntKind.u64.wrap h.mode * 2048)) 6144)) 128 (nzV h.c.s0 8)) 8, h.c.s1, h.c.s2, h.c.s3, h.c.s4, h.c.s5, h.c.s6, bits .andNot .u64 h.pc 1, t, v, h.c.s10, h.c.s11, h.c.s12, h.c.s13, h.c.s14, h.c.s15⟩, h.held, h.rat⟩ : Hart)
set_option maxHeartbeats 1000000 in
theorem toMid_any (h : Hart) (t v : Int) (W : World) : Calls Tryz.prog 64 #[hartV h, .int .u64 t, .int .u64 v] W fun e W' => e = .returned (hartV (toMidF h t v)) ∧ Below W.heap.size W W' := by
  obtain ⟨x, hx, pc, mode, ⟨s0, s1, s2, s3, s4, s5, s6, s7, s8, s9, s10, s11, s12, s13, s14, s15⟩, held, rat⟩ := h
  go_enter Tryz.func64, Tryz.ntmps64
  go_upto_region 1 with (fail)
  have hst : (W.alloc (hartO (⟨x, hx, pc, mode, ⟨s0, s1, s2, s3, s4, s5, s6, s7, s8, s9, s10, s11, s12, s13, s14, s15⟩, held, rat⟩ : Hart))).alloc zeroO = St 0 W (⟨x, hx, pc, mode, ⟨s0, s1, s2, s3, s4, s5, s6, s7, s8, s9, s10, s11, s12, s13, s14, s15⟩, held, rat⟩ : Hart) zeroC := rfl
  rw [hst]
  clear hst
  go_wp2_with (first | (with_reducible refine wpList_load_by rfl rfl St.load_s0 rfl ?_) | (with_reducible refine wpList_load_by rfl rfl St.load_pc rfl ?_) | (with_reducible refine wpList_load_by rfl rfl St.load_mode rfl ?_) | (with_reducible refine wpList_load_by rfl rfl St.load_s10 rfl ?_) | (with_reducible refine wpList_store_by rfl rfl St.store_s12 rfl rfl ?_) | (with_reducible refine wpList_store_by rfl rfl St.store_s13 rfl rfl ?_) | (with_reducible refine wpList_store_by rfl rfl St.store_s14 rfl rfl ?_) | (with_reducible refine wpList_store_by rfl rfl St.store_s0 rfl rfl ?_) | (with_reducible refine wpList_store_by rfl rfl St.store_mode rfl rfl ?_) | (with_reducible refine wpList_store_by rfl rfl St.store_pc rfl rfl ?_) | (with_reducible refine wpList_load_by rfl rfl (St.load _ _ _ _) rfl ?_) | (with_reducible refine wpList_store_by rfl rfl (St.store _ _ _ _) rfl rfl ?_) | (go_at_call 89; (with_reducible refine (with_any _ _ _ _).mono ?_); rintro e w' ⟨rfl, rfl⟩) | (go_at_call 90; (with_reducible refine (entry_any _ _ _).mono ?_); rintro e w' ⟨rfl, rfl⟩) | fail)
  exact bodyPost_ret (v := hartV (toMidF (⟨x, hx, pc, mode, ⟨s0, s1, s2, s3, s4, s5, s6, s7, s8, s9, s10, s11, s12, s13, s14, s15⟩, held, rat⟩ : Hart) t v)) (results_cell_row Tryz.results64 _ _ (W.heap.size + 1) 27 (hartC (toMidF (⟨x, hx, pc, mode, ⟨s0, s1, s2, s3, s4, s5, s6, s7, s8, s9, s10, s11, s12, s13, s14, s15⟩, held, rat⟩ : Hart) t v)) (0, 0) _ rfl (St.res _ W _ _) Tryz.underlying27 rfl (by rw [size27, hartC_size])) rfl ⟨rfl, St.below _ W _ _⟩
set_option maxHeartbeats 1000000 in
theorem toUp_any (h : Hart) (t v : Int) (W : World) : Calls Tryz.prog 65 #[hartV h, .int .u64 t, .int .u64 v] W fun e W' => e = .returned (hartV (toUpF h t v)) ∧ Below W.heap.size W W' := by
  obtain ⟨x, hx, pc, mode, ⟨s0, s1, s2, s3, s4, s5, s6, s7, s8, s9, s10, s11, s12, s13, s14, s15⟩, held, rat⟩ := h
  go_enter Tryz.func65, Tryz.ntmps65
  go_upto_region 1 with (fail)
  have hst : (W.alloc (hartO (⟨x, hx, pc, mode, ⟨s0, s1, s2, s3, s4, s5, s6, s7, s8, s9, s10, s11, s12, s13, s14, s15⟩, held, rat⟩ : Hart))).alloc zeroO = St 0 W (⟨x, hx, pc, mode, ⟨s0, s1, s2, s3, s4, s5, s6, s7, s8, s9, s10, s11, s12, s13, s14, s15⟩, held, rat⟩ : Hart) zeroC := rfl
  rw [hst]
  clear hst
  go_wp2_with (first | (with_reducible refine wpList_load_by rfl rfl St.load_s0 rfl ?_) | (with_reducible refine wpList_load_by rfl rfl St.load_pc rfl ?_) | (with_reducible refine wpList_load_by rfl rfl St.load_mode rfl ?_) | (with_reducible refine wpList_load_by rfl rfl St.load_s5 rfl ?_) | (with_reducible refine wpList_store_by rfl rfl St.store_s7 rfl rfl ?_) | (with_reducible refine wpList_store_by rfl rfl St.store_s8 rfl rfl ?_) | (with_reducible refine wpList_store_by rfl rfl St.store_s9 rfl rfl ?_) | (with_reducible refine wpList_store_by rfl rfl St.store_s0 rfl rfl ?_) | (with_reducible refine wpList_store_by rfl rfl St.store_mode rfl rfl ?_) | (with_reducible refine wpList_store_by rfl rfl St.store_pc rfl rfl ?_) | (with_reducible refine wpList_load_by rfl rfl (St.load _ _ _ _) rfl ?_) | (with_reducible refine wpList_store_by rfl rfl (St.store _ _ _ _) rfl rfl ?_) | (go_at_call 89; (with_reducible refine (with_any _ _ _ _).mono ?_); rintro e w' ⟨rfl, rfl⟩) | (go_at_call 90; (with_reducible refine (entry_any _ _ _).mono ?_); rintro e w' ⟨rfl, rfl⟩) | fail)
  exact bodyPost_ret (v := hartV (toUpF (⟨x, hx, pc, mode, ⟨s0, s1, s2, s3, s4, s5, s6, s7, s8, s9, s10, s11, s12, s13, s14, s15⟩, held, rat⟩ : Hart) t v)) (results_cell_row Tryz.results65 _ _ (W.heap.size + 1) 27 (hartC (toUpF (⟨x, hx, pc, mode, ⟨s0, s1, s2, s3, s4, s5, s6, s7, s8, s9, s10, s11, s12, s13, s14, s15⟩, held, rat⟩ : Hart) t v)) (0, 0) _ rfl (St.res _ W _ _) Tryz.underlying27 rfl (by rw [size27, hartC_size])) rfl ⟨rfl, St.below _ W _ _⟩

end Go.Proofs.YtjohcpokmdofkaaGreatDoor.Tr
