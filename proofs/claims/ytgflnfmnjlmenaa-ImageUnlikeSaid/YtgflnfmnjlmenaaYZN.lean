/- A processor of numbers. -/
import Derived.Test.YtgflnfmnjlmenaaYZM
namespace Go.Proofs.Ytgflnfmnjlmenaa
open Go.RowKit Go.Deep Go.Joins
set_option maxRecDepth 100000
theorem built27 (c : Reg) : Try.prog.built 27 [(3, regV c)] = some (hartC { hartZ with c := c }) := by kernel_rfl
theorem mat_drop {w : World} {g off n c : Nat} {L : List Int} (h : MAt w (.slice (some ⟨g, off, none⟩) n c) L) (k : Nat) (hk : k < L.length) : MAt w (.slice (some ⟨g, off + k, none⟩) (n - k) (c - k)) (L.drop k) := by
  rcases h.2 with ⟨e, _⟩ | ⟨a, cap, e, h1, h2, hc⟩
  · cases e
  · simp only [Value.slice.injEq, Option.some.injEq] at e
    obtain ⟨rfl, rfl, rfl⟩ := e
    refine ⟨by unfold mC; rw [List.length_map, Nat.mul_one], .inr ⟨⟨g, off + k, none⟩, c - k, by rw [List.length_drop], by rw [List.length_drop]; omega, by omega, fun j u hu => ?_⟩⟩
    have := hc (k + j) u (by unfold mC at hu ⊢; rw [List.map_drop, List.getElem?_drop] at hu; exact hu)
    rw [add_lit] at this ⊢
    rw [show off + k + j = off + (k + j) by omega]
    exact this
theorem tail_set (h h' : Hart) (k : Nat) (v : Value) (hx : h'.x = h.x) (ht : tailL h' = (tailL h).set k v) : hartC h' = (hartC h).setIfInBounds (32 + k) v := by
  have hl : (xL h).length = 32 := xL_length h
  unfold hartC hartL
  rw [List.setIfInBounds_toArray, List.set_append_right _ _ (by rw [hl]; omega), hl, Nat.add_sub_cancel_left, ht]
  unfold xL
  rw [hx]
theorem put_pc {w : World} {z : Nat} {h : Hart} (k : Tr.Box w z h) (v : Int) : (Instr.storeAt 22 (.pointer (some ⟨z, 32, none⟩)) (.int .u64 v)).run Try.prog w = .ok () (w.setRow z (hartC { h with pc := v })) := by
  rw [tail_set h { h with pc := v } 0 (.int .u64 v) rfl rfl]
  exact run_store_cell w z 32 22 27 (hartC h) _ k size22 (by rw [hartC_size]; omega) rfl rfl
theorem put_mode {w : World} {z : Nat} {h : Hart} (k : Tr.Box w z h) (v : Int) : (Instr.storeAt 3 (.pointer (some ⟨z, 33, none⟩)) (.int .i64 v)).run Try.prog w = .ok () (w.setRow z (hartC { h with mode := v })) := by
  rw [tail_set h { h with mode := v } 1 (.int .i64 v) rfl rfl]
  exact run_store_cell w z 33 3 27 (hartC h) _ k size3 (by rw [hartC_size]; omega) rfl rfl
theorem put_held {w : World} {z : Nat} {h : Hart} (k : Tr.Box w z h) (v : Bool) : (Instr.storeAt 4 (.pointer (some ⟨z, 50, none⟩)) (.bool v)).run Try.prog w = .ok () (w.setRow z (hartC { h with held := v })) := by
  rw [tail_set h { h with held := v } 18 (.bool v) rfl rfl]
  exact run_store_cell w z 50 4 27 (hartC h) _ k size4 (by rw [hartC_size]; omega) rfl rfl
theorem put_rat {w : World} {z : Nat} {h : Hart} (k : Tr.Box w z h) (v : Int) : (Instr.storeAt 22 (.pointer (some ⟨z, 51, none⟩)) (.int .u64 v)).run Try.prog w = .ok () (w.setRow z (hartC { h with rat := v })) := by
  rw [tail_set h { h with rat := v } 19 (.int .u64 v) rfl rfl]
  exact run_store_cell w z 51 22 27 (hartC h) _ k size22 (by rw [hartC_size]; omega) rfl rfl
def hartF0 (L : List Int) : Hart := { hartZ with c := regF (L.drop 36) }
def hartF1 (L : List Int) (h : L.length = 52) : Hart := { hartF0 L with x := L.take 32, hx := by rw [List.length_take]; omega }
def hartF (L : List Int) (h : L.length = 52) : Hart := { hartF1 L h with pc := nt (L.drop 32) 0, mode := IntKind.i64.wrap (nt (L.drop 32) 1), held := nt (L.drop 32) 2 == 1, rat := nt (L.drop 32) 3 }
theorem tocsr_at {g off n c : Nat} {L : List Int} {w : World} (hm : MAt w (.slice (some ⟨g, off, none⟩) n c) L) (hn : L.length = n) (h16 : 16 ≤ n) : Calls Try.prog 45 #[.slice (some ⟨g, off, none⟩) n c] w fun e W' => e = .returned (regV (regF L)) ∧ Below w.heap.size w W' := by
  subst hn
  exact tocsr_any _ _ _ _ hm h16
theorem hart_copy {w : World} {z g off c : Nat} {L : List Int} (hl : L.length = 52) (hb : Tr.Box w z (hartF0 L)) (hm : MAt w (.slice (some ⟨g, off, none⟩) 52 c) L) (ty : TypeId) :
    (Builtin.copy_ #[37, 37] ty #[.slice (some ⟨z, 0, none⟩) 32 32, .slice (some ⟨g, off, none⟩) 52 c]).run Try.prog w = .ok (goInt 32) (w.setRow z (hartC (hartF1 L hl))) := by
  rcases hm.2 with ⟨e, _⟩ | ⟨a, cap, e, h1, h2, hc⟩
  · cases e
  · simp only [Value.slice.injEq, Option.some.injEq] at e
    obtain ⟨rfl, _, rfl⟩ := e
    have hlen : ((L.take 32).map (Value.int .u64)).length = 32 := by rw [List.length_map, List.length_take]; omega
    have hrun := run_copy_row (P := Try.prog) w 37 37 ty 22 z 0 32 32 ⟨g, off, none⟩ 52 c (hartC (hartF0 L)) 27 ((L.take 32).map (Value.int .u64)) Try.underlying37 size22 hb (by rw [hlen]; rfl) (fun j u hu => hc j u (by
      unfold mC
      rw [List.getElem?_map] at hu ⊢
      rw [List.getElem?_take] at hu
      split at hu
      · exact hu
      · cases hu)) (by rw [hlen, hartC_size]; omega) (fun v hv => by obtain ⟨x, _, rfl⟩ := List.mem_map.1 hv; rfl)
    rw [hlen] at hrun
    have e : (((hartC (hartF0 L)).toList.take 0 ++ (L.take 32).map (Value.int .u64) ++ (hartC (hartF0 L)).toList.drop (0 + 32)).toArray : Array Value) = hartC (hartF1 L hl) := by
      unfold hartC hartL
      rw [List.toList_toArray, List.take_zero, List.nil_append, Nat.zero_add, List.drop_append, xL_length, Nat.sub_self, List.drop_zero, List.drop_of_length_le (by rw [xL_length]; omega), List.nil_append]
      rfl
    rw [e] at hrun
    exact hrun
set_option maxHeartbeats 4000000 in
theorem toproc_any (g off c : Nat) (L : List Int) (W : World) (hm : MAt W (.slice (some ⟨g, off, none⟩) 52 c) L) (hl : L.length = 52) : Calls Try.prog 37 #[.slice (some ⟨g, off, none⟩) 52 c] W fun e W' => e = .returned (hartV (hartF L hl)) ∧ Below W.heap.size W W' := by
  have hc52 : 52 ≤ c := by
    rcases hm.2 with ⟨e, _⟩ | ⟨a, cap, e, h1, h2, _⟩
    · cases e
    · simp only [Value.slice.injEq] at e; omega
  have M := Lib.hid (fun w' (hb : Below W.heap.size W w') => Reads.below hm hb)
  have HL := Lib.hid hl
  have C45 := Lib.hid (fun w' (hb : Below W.heap.size W w') => tocsr_at (mat_drop (M.out w' hb) 36 (by omega)) (by rw [List.length_drop, hl]) (by omega))
  have k1 : ¬ c = 36 := by omega
  have k2 : (36 : Int) ≤ c := by omega
  have k3 : ¬ c = 32 := by omega
  have k4 : (32 : Int) ≤ c := by omega
  clear hm
  go_enter Try.func37, Try.ntmps37
  go_upto_region 1 with fail
  have Z := Lib.hid (show (W.alloc Tr.zeroO).heap[W.heap.size]? = some (.cells Tr.zeroC 27 (0, 0)) from heap_alloc_last W _)
  have B := Lib.hid (below1 W Tr.zeroO)
  generalize W.alloc Tr.zeroO = wa at Z B ⊢
  go_upto_region 2 with (first | (go_at_call 45; (with_reducible refine (C45.out _ B.out).mono ?_); rintro e w2 ⟨rfl, kk⟩; have B2 := Lib.hid (below_then B.out kk); have Z2 := Lib.hid ((kk.block _ (Array.getElem?_eq_some_iff.1 Z.out).1).trans Z.out); clear kk) | ((with_reducible show wpList _ _ _ (⟨some 7, Op.build 27 _, _, _, _, _⟩ :: _) _ _); refine wpList_exec (by kernel_rfl) (exec_build1 rfl rfl (built27 _)) ?_; simp only [Act.put, List.setIfInBounds_toArray, List.set_cons_zero, List.set_cons_succ]) | (with_reducible refine wpList_store_by rfl rfl (Tr.store_new w2 (hartF0 L)) rfl rfl ?_) | fail)
  have X3 := Lib.hid (show Tr.Box (w2.alloc (Tr.hartO (hartF0 L))) w2.heap.size (hartF0 L) from Tr.Box.new w2 _)
  have B3 := Lib.hid (below_then B2.out (below1 w2 (Tr.hartO (hartF0 L))))
  have Z3 := Lib.hid (((below1 w2 (Tr.hartO (hartF0 L))).block _ (Array.getElem?_eq_some_iff.1 Z2.out).1).trans Z2.out)
  have NZ := Lib.hid (show W.heap.size < w2.heap.size from (Array.getElem?_eq_some_iff.1 Z2.out).1)
  generalize w2.heap.size = z at X3 NZ ⊢
  generalize w2.alloc (Tr.hartO (hartF0 L)) = w3 at X3 B3 Z3 ⊢
  have HC := hart_copy hl X3.out (M.out w3 B3.out) 3
  go_upto_region 4 with fail
  have X4 := Lib.hid (Tr.Box.mine X3.out (hartF1 L hl))
  have B4 := Lib.hid (below_setRow B3.out (Nat.le_of_lt NZ.out) (hartC (hartF1 L hl)))
  have Z4 := Lib.hid ((setRow_other w3 z W.heap.size (hartC (hartF1 L hl)) (by have := NZ.out; omega)).trans Z3.out)
  clear HC X3 B3 Z3
  generalize w3.setRow z (hartC (hartF1 L hl)) = w4 at X4 B4 Z4 ⊢
  have CU := Lib.hid (fun w' (hb : Below W.heap.size W w') => show Cu w' g (off + 32) (L.drop 32) from by
    obtain ⟨g', off', e, _, hc⟩ := cu_of (show MAt w' (.slice (some ⟨g, off + 32, none⟩) (L.drop 32).length (c - 32)) (L.drop 32) from by have := mat_drop (M.out w' hb) 32 (by omega); rw [List.length_drop, hl]; exact this) (by rw [List.length_drop]; omega)
    simp only [Option.some.injEq, Addr.mk.injEq] at e
    obtain ⟨rfl, rfl, _⟩ := e
    exact hc)
  refine dr (fun w => Cu w g (off + 32) (L.drop 32) ∧ ∃ h, Tr.Box w z h) fun wz hzz => ?_
  have X5 := X4.out.next hzz
  have B5 := below_then B4.out hzz
  have Z5 := (hzz.block _ (Array.getElem?_eq_some_iff.1 Z4.out).1).trans Z4.out
  have hS : Cu wz g (off + 32) (L.drop 32) ∧ ∃ h, Tr.Box wz z h := ⟨CU.out wz B5, _, X5⟩
  clear hzz X4 B4 Z4
  refine tk 0 hS ?_
  refine tk 1 hS ?_
  refine tl 2 hS (fun w hw => ld_u (hw.1 0 (by rw [List.length_drop]; omega))) ?_
  refine tk 3 hS ?_
  refine tk 4 hS ?_
  refine tl 5 hS (fun w hw => ld_u (hw.1 1 (by rw [List.length_drop]; omega))) ?_
  refine tk 6 hS ?_
  refine tk 7 hS ?_
  refine tk 8 hS ?_
  refine tl 9 hS (fun w hw => ld_u (hw.1 2 (by rw [List.length_drop]; omega))) ?_
  refine tk 10 hS ?_
  refine tk 11 hS ?_
  refine tk 12 hS ?_
  refine tl 13 hS (fun w hw => ld_u (hw.1 3 (by rw [List.length_drop]; omega))) ?_
  refine tk 14 hS ?_
  refine hs 15 (put_pc X5 _) fun w6 hw => ?_
  have X6 : Tr.Box w6 z ({ hartF1 L hl with pc := nt (L.drop 32) 0 }) := by subst hw; exact Tr.Box.mine X5 _
  have B6 : Below W.heap.size W w6 := by subst hw; exact below_setRow B5 (Nat.le_of_lt NZ.out) _
  have Z6 : w6.heap[W.heap.size]? = some (.cells Tr.zeroC 27 (0, 0)) := by subst hw; exact (setRow_other _ _ _ _ (by have := NZ.out; omega)).trans Z5
  refine ⟨⟨CU.out w6 B6, _, X6⟩, fun hS => ?_⟩
  clear hw
  refine tk 16 hS ?_
  refine hs 17 (put_mode X6 _) fun w7 hw => ?_
  have X7 : Tr.Box w7 z ({ hartF1 L hl with pc := nt (L.drop 32) 0, mode := IntKind.i64.wrap (nt (L.drop 32) 1) }) := by subst hw; exact Tr.Box.mine X6 _
  have B7 : Below W.heap.size W w7 := by subst hw; exact below_setRow B6 (Nat.le_of_lt NZ.out) _
  have Z7 : w7.heap[W.heap.size]? = some (.cells Tr.zeroC 27 (0, 0)) := by subst hw; exact (setRow_other _ _ _ _ (by have := NZ.out; omega)).trans Z6
  refine ⟨⟨CU.out w7 B7, _, X7⟩, fun hS => ?_⟩
  clear hw
  refine tk 18 hS ?_
  refine hs 19 (put_held X7 _) fun w8 hw => ?_
  have X8 : Tr.Box w8 z ({ hartF1 L hl with pc := nt (L.drop 32) 0, mode := IntKind.i64.wrap (nt (L.drop 32) 1), held := nt (L.drop 32) 2 == 1 }) := by subst hw; exact Tr.Box.mine X7 _
  have B8 : Below W.heap.size W w8 := by subst hw; exact below_setRow B7 (Nat.le_of_lt NZ.out) _
  have Z8 : w8.heap[W.heap.size]? = some (.cells Tr.zeroC 27 (0, 0)) := by subst hw; exact (setRow_other _ _ _ _ (by have := NZ.out; omega)).trans Z7
  refine ⟨⟨CU.out w8 B8, _, X8⟩, fun hS => ?_⟩
  clear hw
  refine tk 20 hS ?_
  refine hs 21 (put_rat X8 _) fun w9 hw => ?_
  have X9 : Tr.Box w9 z ({ hartF1 L hl with pc := nt (L.drop 32) 0, mode := IntKind.i64.wrap (nt (L.drop 32) 1), held := nt (L.drop 32) 2 == 1, rat := nt (L.drop 32) 3 }) := by subst hw; exact Tr.Box.mine X8 _
  have B9 : Below W.heap.size W w9 := by subst hw; exact below_setRow B8 (Nat.le_of_lt NZ.out) _
  have Z9 : w9.heap[W.heap.size]? = some (.cells Tr.zeroC 27 (0, 0)) := by subst hw; exact (setRow_other _ _ _ _ (by have := NZ.out; omega)).trans Z8
  refine ⟨⟨CU.out w9 B9, _, X9⟩, fun hS => ?_⟩
  clear hw
  refine wpAnyH_done (by kernel_rfl) ?_ _
  have X := Lib.hid (show Tr.Box w9 z (hartF L hl) from X9)
  have B := Lib.hid B9
  have Z := Lib.hid Z9
  clear X5 X6 X7 X8 X9 B5 B6 B7 B8 B9 Z5 Z6 Z7 Z8 Z9 hS
  have ST := Lib.hid (show (Instr.storeAt 27 (.pointer (some ⟨W.heap.size, 0, none⟩)) (hartV (hartF L hl))).run Try.prog w9 = .ok () (w9.setRow W.heap.size (hartC (hartF L hl))) from run_storeVar_row (P := Try.prog) w9 W.heap.size 27 27 Tr.zeroC (hartC (hartF L hl)) Z.out (by rw [size27, hartC_size]) (by rw [hartC_size]; rfl) (hart_one _))
  go_wp2_with (first | (with_reducible refine wpList_load_by rfl rfl (Tr.Box.load X.out) rfl ?_) | (with_reducible refine wpList_store_by rfl rfl ST.out rfl rfl ?_) | fail)
  refine bodyPost_ret (v := hartV (hartF L hl)) (results_cell_row Try.results37 _ _ W.heap.size 27 (hartC (hartF L hl)) (0, 0) _ rfl (setRow_heap w9 W.heap.size _ _ 27 (0, 0) Z.out) Try.underlying27 rfl (by rw [size27, hartC_size])) rfl ⟨rfl, below_setRow B.out (Nat.le_refl _) _⟩
end Go.Proofs.Ytgflnfmnjlmenaa
