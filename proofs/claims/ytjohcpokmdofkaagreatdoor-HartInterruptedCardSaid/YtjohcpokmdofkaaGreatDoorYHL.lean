/- The program is awake: one word, decoded and done. The program is awake: the word is an instruction. The program is awake: a half of a word. The program is awake: fetch and decode. The program is awake: the instruction is done. The program is awake: a step. The program is awake. -/
import Derived.Test.YtjohcpokmdofkaaGreatDoorYHE
namespace Go.Proofs.YtjohcpokmdofkaaGreatDoor
open Go.RowKit Go.Deep Go.Joins
set_option maxRecDepth 100000 in
set_option maxHeartbeats 2000000 in
theorem bits_14_12 (W : World) : Calls Tryz.prog 116 #[.int .u32 5244179, .int .u64 14, .int .u64 12] W fun e W' => e = .returned (.int .u32 0) ∧ W = W' := by
  go_enter Tryz.func116, Tryz.ntmps116
  go_wp2
  go_ret
  exact ⟨rfl, rfl⟩
set_option maxRecDepth 100000 in
set_option maxHeartbeats 2000000 in
theorem bits_6_0 (W : World) : Calls Tryz.prog 116 #[.int .u32 5244179, .int .u64 6, .int .u64 0] W fun e W' => e = .returned (.int .u32 19) ∧ W = W' := by
  go_enter Tryz.func116, Tryz.ntmps116
  go_wp2
  go_ret
  exact ⟨rfl, rfl⟩
set_option maxRecDepth 100000 in
set_option maxHeartbeats 2000000 in
theorem bits_31_26 (W : World) : Calls Tryz.prog 116 #[.int .u32 5244179, .int .u64 31, .int .u64 26] W fun e W' => e = .returned (.int .u32 0) ∧ W = W' := by
  go_enter Tryz.func116, Tryz.ntmps116
  go_wp2
  go_ret
  exact ⟨rfl, rfl⟩
set_option maxRecDepth 100000 in
set_option maxHeartbeats 2000000 in
theorem bits_25_20 (W : World) : Calls Tryz.prog 116 #[.int .u32 5244179, .int .u64 25, .int .u64 20] W fun e W' => e = .returned (.int .u32 5) ∧ W = W' := by
  go_enter Tryz.func116, Tryz.ntmps116
  go_wp2
  go_ret
  exact ⟨rfl, rfl⟩
set_option maxRecDepth 100000 in
set_option maxHeartbeats 2000000 in
theorem bits_31_20 (W : World) : Calls Tryz.prog 116 #[.int .u32 5244179, .int .u64 31, .int .u64 20] W fun e W' => e = .returned (.int .u32 5) ∧ W = W' := by
  go_enter Tryz.func116, Tryz.ntmps116
  go_wp2
  go_ret
  exact ⟨rfl, rfl⟩
set_option maxRecDepth 100000 in
set_option maxHeartbeats 2000000 in
theorem bits_31_31 (W : World) : Calls Tryz.prog 116 #[.int .u32 5244179, .int .u64 31, .int .u64 31] W fun e W' => e = .returned (.int .u32 0) ∧ W = W' := by
  go_enter Tryz.func116, Tryz.ntmps116
  go_wp2
  go_ret
  exact ⟨rfl, rfl⟩
set_option maxRecDepth 100000 in
set_option maxHeartbeats 2000000 in
theorem bits_11_7 (W : World) : Calls Tryz.prog 116 #[.int .u32 5244179, .int .u64 11, .int .u64 7] W fun e W' => e = .returned (.int .u32 10) ∧ W = W' := by
  go_enter Tryz.func116, Tryz.ntmps116
  go_wp2
  go_ret
  exact ⟨rfl, rfl⟩
set_option maxRecDepth 100000 in
set_option maxHeartbeats 2000000 in
theorem bits_19_15 (W : World) : Calls Tryz.prog 116 #[.int .u32 5244179, .int .u64 19, .int .u64 15] W fun e W' => e = .returned (.int .u32 0) ∧ W = W' := by
  go_enter Tryz.func116, Tryz.ntmps116
  go_wp2
  go_ret
  exact ⟨rfl, rfl⟩
set_option maxRecDepth 100000 in
set_option maxHeartbeats 2000000 in
theorem rd_w (W : World) : Calls Tryz.prog 185 #[.int .u32 5244179] W fun e W' => e = .returned (.int .i64 10) ∧ W = W' := by
  go_enter Tryz.func185, Tryz.ntmps185
  go_wp2_with (first | (go_at_call 116; (first | (with_reducible refine (bits_14_12 _).mono ?_) | (with_reducible refine (bits_6_0 _).mono ?_) | (with_reducible refine (bits_31_26 _).mono ?_) | (with_reducible refine (bits_25_20 _).mono ?_) | (with_reducible refine (bits_31_20 _).mono ?_) | (with_reducible refine (bits_31_31 _).mono ?_) | (with_reducible refine (bits_11_7 _).mono ?_) | (with_reducible refine (bits_19_15 _).mono ?_) | fail); rintro e w9 ⟨rfl, rfl⟩) | fail)
  go_ret
  exact ⟨rfl, rfl⟩
set_option maxRecDepth 100000 in
set_option maxHeartbeats 2000000 in
theorem rs1_w (W : World) : Calls Tryz.prog 187 #[.int .u32 5244179] W fun e W' => e = .returned (.int .i64 0) ∧ W = W' := by
  go_enter Tryz.func187, Tryz.ntmps187
  go_wp2_with (first | (go_at_call 116; (first | (with_reducible refine (bits_14_12 _).mono ?_) | (with_reducible refine (bits_6_0 _).mono ?_) | (with_reducible refine (bits_31_26 _).mono ?_) | (with_reducible refine (bits_25_20 _).mono ?_) | (with_reducible refine (bits_31_20 _).mono ?_) | (with_reducible refine (bits_31_31 _).mono ?_) | (with_reducible refine (bits_11_7 _).mono ?_) | (with_reducible refine (bits_19_15 _).mono ?_) | fail); rintro e w9 ⟨rfl, rfl⟩) | fail)
  go_ret
  exact ⟨rfl, rfl⟩
set_option maxRecDepth 100000 in
set_option maxHeartbeats 2000000 in
theorem sign_w (W : World) : Calls Tryz.prog 186 #[.int .u32 5244179] W fun e W' => e = .returned (.int .i64 0) ∧ W = W' := by
  go_enter Tryz.func186, Tryz.ntmps186
  go_wp2_with (first | (go_at_call 116; (first | (with_reducible refine (bits_14_12 _).mono ?_) | (with_reducible refine (bits_6_0 _).mono ?_) | (with_reducible refine (bits_31_26 _).mono ?_) | (with_reducible refine (bits_25_20 _).mono ?_) | (with_reducible refine (bits_31_20 _).mono ?_) | (with_reducible refine (bits_31_31 _).mono ?_) | (with_reducible refine (bits_11_7 _).mono ?_) | (with_reducible refine (bits_19_15 _).mono ?_) | fail); rintro e w9 ⟨rfl, rfl⟩) | fail)
  go_ret
  exact ⟨rfl, rfl⟩
set_option maxRecDepth 100000 in
set_option maxHeartbeats 2000000 in
theorem numberI_w (W : World) : Calls Tryz.prog 121 #[.int .u32 5244179] W fun e W' => e = .returned (.int .i64 5) ∧ W = W' := by
  go_enter Tryz.func121, Tryz.ntmps121
  go_wp2_with (first | (go_at_call 116; (first | (with_reducible refine (bits_14_12 _).mono ?_) | (with_reducible refine (bits_6_0 _).mono ?_) | (with_reducible refine (bits_31_26 _).mono ?_) | (with_reducible refine (bits_25_20 _).mono ?_) | (with_reducible refine (bits_31_20 _).mono ?_) | (with_reducible refine (bits_31_31 _).mono ?_) | (with_reducible refine (bits_11_7 _).mono ?_) | (with_reducible refine (bits_19_15 _).mono ?_) | fail); rintro e w9 ⟨rfl, rfl⟩) | (go_at_call 186; (with_reducible refine (sign_w _).mono ?_); rintro e w8 ⟨rfl, rfl⟩) | fail)
  go_ret
  exact ⟨rfl, rfl⟩
set_option maxRecDepth 100000 in
set_option maxHeartbeats 2000000 in
theorem short_w (W : World) : Calls Tryz.prog 67 #[.int .u16 1299] W fun e W' => e = .returned (.bool false) ∧ W = W' := by
  go_enter Tryz.func67, Tryz.ntmps67
  go_wp2_with (first | fail | fail)
  go_ret
  exact ⟨rfl, rfl⟩
set_option maxRecDepth 100000 in
set_option maxHeartbeats 2000000 in
theorem atomic_w (W : World) : Calls Tryz.prog 83 #[.int .i64 22] W fun e W' => e = .returned (.int .i64 0) ∧ W = W' := by
  go_enter Tryz.func83, Tryz.ntmps83
  go_wp2_with (first | fail | fail)
  go_ret
  exact ⟨rfl, rfl⟩
set_option maxRecDepth 100000 in
set_option maxHeartbeats 2000000 in
theorem ofnumber_w (W : World) : Calls Tryz.prog 109 #[.int .i64 22] W fun e W' => e = .returned (.bool true) ∧ W = W' := by
  go_enter Tryz.func109, Tryz.ntmps109
  go_wp2_with (first | fail | fail)
  go_ret
  exact ⟨rfl, rfl⟩
set_option maxRecDepth 100000 in
set_option maxHeartbeats 2000000 in
theorem sum_w (W : World) : Calls Tryz.prog 152 #[.int .i64 22, .int .u64 0, .int .u64 5] W fun e W' => e = .returned (.tuple #[.int .u64 5, .bool true]) ∧ W = W' := by
  go_enter Tryz.func152, Tryz.ntmps152
  go_wp2
  go_ret2
  exact ⟨rfl, rfl⟩
set_option maxRecDepth 100000 in
set_option maxHeartbeats 2000000 in
theorem do_w (W : World) : Calls Tryz.prog 110 #[.int .i64 22, .int .u64 0, .int .u64 5] W fun e W' => e = .returned (.tuple #[.int .u64 5, .bool true]) ∧ W = W' := by
  go_enter Tryz.func110, Tryz.ntmps110
  go_wp2_with (first | (go_at_call 152; (with_reducible refine (sum_w _).mono ?_); rintro e w8 ⟨rfl, rfl⟩) | fail)
  go_ret2
  exact ⟨rfl, rfl⟩

end Go.Proofs.YtjohcpokmdofkaaGreatDoor
namespace Go.Proofs.YtjohcpokmdofkaaGreatDoor
open Go.RowKit Go.Deep Go.Joins
theorem run_load_at {P : Program} (w : World) (b k : Nat) (t : TypeId) (v : Value) (d : TypeDesc) (hu : P.underlying t = some d) (hd : (match d with | .struct _ | .array _ _ => true | _ => false) = false) (hcell : w.cell? ⟨b, k, none⟩ = some v) :
    (Instr.loadAt t (.pointer (some ⟨b, k, none⟩))).run P w = .ok v w := by
  have hagg : (isAgg t).run P w = .ok false w := by
    unfold isAgg
    rw [Sem.run_bind, run_underlying hu w]
    cases d <;> simp_all
  simp [Instr.loadAt, Instr.sureAddr, loadVar, Sem.run_bind, Result.andThen, hagg, run_load, hcell]
theorem calls_quiet {f : FuncId} {args : Array Value} {w : World} {v : Value} (h : Calls Tryz.prog f args w fun e w' => e = .returned v ∧ w = w') : Calls Tryz.prog f args w fun e w' => ∃ u, e = .returned u ∧ (u = v ∧ w = w') := h.mono fun _ _ h => ⟨_, h.1, rfl, h.2⟩
/-- The instruction of the word, and none. -/
abbrev inC : Array Value := #[.int .i64 22, .int .i64 10, .int .i64 0, .int .i64 0, .int .i64 5]
abbrev inZ : Array Value := #[.int .i64 0, .int .i64 0, .int .i64 0, .int .i64 0, .int .i64 0]
abbrev inO : Obj := .cells inZ 73
theorem size73 : (Tryz.prog.info? 73).map (·.size) = some 5 := by kernel_rfl
theorem in_store {w : World} {g : Nat} {old : Array Value} (h : w.heap[g]? = some (.cells old 73 (0, 0))) (ho : old.size = 5) : (Instr.storeAt 73 (.pointer (some ⟨g, 0, none⟩)) (.agg inC)).run Tryz.prog w = .ok () (w.setRow g inC) := by
  simp only [Instr.storeAt, Instr.sureAddr, Sem.run_bind, Sem.run_pure, Result.andThen]
  exact run_storeVar_row w g 73 73 _ _ h (by rw [size73]; rfl) (by rw [ho]; rfl) (by simp [Value.oneCell'])
theorem in_load {w : World} {g : Nat} (h : w.heap[g]? = some (.cells inC 73 (0, 0))) : (Instr.loadAt 73 (.pointer (some ⟨g, 0, none⟩))).run Tryz.prog w = .ok (.agg inC) w := by
  simp only [Instr.loadAt, Instr.sureAddr, Sem.run_bind, Sem.run_pure, Result.andThen]
  exact run_loadVar_row w g 73 73 inC (0, 0) _ h Tryz.underlying73 rfl (by rw [size73]; rfl)
theorem in_result {w : World} {g : Nat} (h : w.heap[g]? = some (.cells inC 73 (0, 0))) : (loadVar 73 ⟨g, 0, none⟩).run Tryz.prog w = .ok (.agg inC) w :=
  run_loadVar_row w g 73 73 inC (0, 0) _ h Tryz.underlying73 rfl (by rw [size73]; rfl)
/-- The row of operations that the word's is in. -/
def LaidN (W : World) : Prop := 12 ≤ W.heap.size ∧ W.cell? ⟨4, 0, none⟩ = some (.int .i64 22)
theorem LaidN.below {W W' : World} (h : LaidN W) (hb : Below W.heap.size W W') : LaidN W' :=
  ⟨by have := hb.size; have := h.1; omega, (hb.cell (p := ⟨4, 0, none⟩) (by have := h.1; show 4 < _; omega)).trans h.2⟩
set_option maxRecDepth 100000 in
set_option maxHeartbeats 2000000 in
theorem with_w (W : World) : Calls Tryz.prog 120 #[.int .u32 5244179, .int .i64 22, .int .i64 5] W fun e W' => e = .returned (.agg inC) ∧ Below W.heap.size W W' := by
  go_enter Tryz.func120, Tryz.ntmps120
  have X := Lib.hid ((Mem.start W).new inZ 73 (by decide))
  go_upto_region 1 with (fail)
  generalize W.alloc (.cells inZ 73) = wa at X ⊢
  go_wp2_with (first | (go_at_call 185; (with_reducible refine (rd_w _).mono ?_); rintro e w8 ⟨rfl, rfl⟩) | (go_at_call 187; (with_reducible refine (rs1_w _).mono ?_); rintro e w8 ⟨rfl, rfl⟩) | (with_reducible refine wpList_store_by rfl rfl (in_store X.out.g0 rfl) rfl rfl ?_) | fail)
  have X := Lib.hid (X.out.p0 (cs' := inC) rfl)
  exact bodyPost_ret (v := .agg inC) (results_cell_row Tryz.results120 _ _ W.heap.size 73 inC (0, 0) _ rfl X.out.g0 Tryz.underlying73 rfl (by rw [size73]; rfl)) rfl ⟨rfl, X.out.below⟩
set_option maxRecDepth 100000 in
set_option maxHeartbeats 2000000 in
theorem own_w (W : World) (hL : LaidN W) : Calls Tryz.prog 125 #[.int .u32 5244179] W fun e W' => e = .returned (.agg inC) ∧ Below W.heap.size W W' := by
  have HL := Lib.hid hL
  clear hL
  go_enter Tryz.func125, Tryz.ntmps125
  have X := Lib.hid ((Mem.start W).new inZ 73 (by decide))
  go_upto_region 1 with (fail)
  generalize W.alloc (.cells inZ 73) = wa at X ⊢
  go_upto_region 8 with (first | (go_at_call 116; (first | (with_reducible refine (bits_14_12 _).mono ?_) | (with_reducible refine (bits_6_0 _).mono ?_) | (with_reducible refine (bits_31_26 _).mono ?_) | (with_reducible refine (bits_25_20 _).mono ?_) | fail); rintro e w9 ⟨rfl, rfl⟩) | fail)
  refine dr (fun w => w.cell? ⟨4, 0, none⟩ = some (.int .i64 22)) fun wz hzz => ?_
  have X := Lib.hid (X.out.next hzz)
  clear hzz
  have hS := (HL.out.below X.out.below).2
  refine tk 0 hS ?_
  refine tk 1 hS ?_
  refine tk 2 hS ?_
  refine tl 3 hS (fun w hw => run_load_at w 4 0 3 _ _ Tryz.underlying3 rfl hw) ?_
  refine tk 4 hS ?_
  refine hc 5 (calls_quiet (numberI_w _)) ?_
  rintro v' wb ⟨rfl, rfl⟩
  refine ⟨hS, fun hS => ?_⟩
  simp only [puts]
  refine hc 6 (calls_told (with_w _)) ?_
  rintro v' wb ⟨rfl, kk⟩
  have X := Lib.hid (X.out.next kk)
  refine ⟨(HL.out.below X.out.below).2, fun hS => ?_⟩
  clear kk
  simp only [puts]
  refine hs 7 (in_store X.out.g0 rfl) fun wy hw => ?_
  have X := Lib.hid (X.out.p0 hw)
  refine ⟨(HL.out.below X.out.below).2, fun hS => wpAnyH_done (by kernel_rfl) ?_ _⟩
  clear hw hS
  go_wp2_with fail
  exact bodyPost_ret (v := .agg inC) (results_cell_row Tryz.results125 _ _ W.heap.size 73 inC (0, 0) _ rfl X.out.g0 Tryz.underlying73 rfl (by rw [size73]; rfl)) rfl ⟨rfl, X.out.below⟩
set_option maxRecDepth 100000 in
set_option maxHeartbeats 2000000 in
theorem instr_w (W : World) (hL : LaidN W) : Calls Tryz.prog 94 #[.int .u32 5244179] W fun e W' => e = .returned (.agg inC) ∧ Below W.heap.size W W' := by
  have HL := Lib.hid hL
  clear hL
  go_enter Tryz.func94, Tryz.ntmps94
  have X := Lib.hid ((Mem.start W).new inZ 73 (by decide))
  go_upto_region 1 with (fail)
  generalize W.alloc (.cells inZ 73) = wa at X ⊢
  go_wp2_with (first | (go_at_call 116; (first | (with_reducible refine (bits_14_12 _).mono ?_) | (with_reducible refine (bits_6_0 _).mono ?_) | (with_reducible refine (bits_31_26 _).mono ?_) | (with_reducible refine (bits_25_20 _).mono ?_) | fail); rintro e w9 ⟨rfl, rfl⟩) | (go_at_call 125; (with_reducible refine (own_w _ (HL.out.below X.out.below)).mono ?_); rintro e wb ⟨rfl, kk⟩; have X := Lib.hid (X.out.next kk); clear kk) | (with_reducible refine wpList_store_by rfl rfl (in_store X.out.g0 rfl) rfl rfl ?_) | fail)
  have X := Lib.hid (X.out.p0 (cs' := inC) rfl)
  exact bodyPost_ret (v := .agg inC) (results_cell_row Tryz.results94 _ _ W.heap.size 73 inC (0, 0) _ rfl X.out.g0 Tryz.underlying73 rfl (by rw [size73]; rfl)) rfl ⟨rfl, X.out.below⟩
theorem results_in {fn : Func} {p u : Tmp} (h : fn.results = #[.cell p 73, .tmp u]) (tmps : Array Value) (w : World) (g : Nat) (v : Value) (hp : tmps.getD p undef = .pointer (some ⟨g, 0, none⟩)) (hg : w.heap[g]? = some (.cells inC 73 (0, 0))) (hv : tmps.getD u undef = v) : (results fn tmps).run Tryz.prog w = .ok (.tuple #[.agg inC, v]) w := by
  have hp' : tmps[p]?.getD undef = .pointer (some ⟨g, 0, none⟩) := by simpa using hp
  have hv' : tmps[u]?.getD undef = v := by simpa using hv
  simp [results, h, hp', hv', asAddr, in_result hg]
set_option maxRecDepth 100000 in
set_option maxHeartbeats 2000000 in
theorem word_w (W : World) (hL : LaidN W) : Calls Tryz.prog 70 #[.int .u32 5244179] W fun e W' => e = .returned (.tuple #[.agg inC, .int .i64 0]) ∧ Below W.heap.size W W' := by
  have HL := Lib.hid hL
  clear hL
  go_enter Tryz.func70, Tryz.ntmps70
  have X := Lib.hid ((Mem.start W).new inZ 73 (by decide))
  go_upto_region 1 with (fail)
  generalize W.alloc (.cells inZ 73) = wa at X ⊢
  go_upto_region 2 with (first | (go_at_call 94; (with_reducible refine (instr_w _ (HL.out.below X.out.below)).mono ?_); rintro e wb ⟨rfl, kk⟩; have X := Lib.hid (X.out.next kk); clear kk) | (with_reducible refine wpList_store_by rfl rfl (in_store (X.out.new inZ 73 (by decide)).g0 rfl) rfl rfl ?_) | fail)
  have X := Lib.hid ((X.out.new inZ 73 (by decide)).p0 (cs' := inC) rfl)
  generalize wb.heap.size = gi at X ⊢
  generalize (wb.alloc (.cells inZ 73)).setRow gi inC = wc at X ⊢
  have m_op : wc.cell? ⟨gi, 0, none⟩ = some (.int .i64 22) := cell_of_row _ _ 0 _ 73 (0, 0) X.out.g0
  go_wp2_with (first | (with_reducible refine wpList_load_by rfl rfl (in_load X.out.g0) rfl ?_) | (with_reducible refine wpList_store_by rfl rfl (in_store X.out.g1 rfl) rfl rfl ?_) | fail)
  have X := Lib.hid (X.out.p1 (cs' := inC) rfl)
  exact bodyPost_ret (v := .tuple #[.agg inC, .int .i64 0]) (results_in Tryz.results70 _ _ W.heap.size _ rfl X.out.g1 rfl) rfl ⟨rfl, X.out.below⟩

end Go.Proofs.YtjohcpokmdofkaaGreatDoor
namespace Go.Proofs.YtjohcpokmdofkaaGreatDoor
open Go.RowKit Go.Deep Go.Joins
/-- The processor's registers, by their machine. -/
abbrev rgC (z : Nat) : Array Value := #[.pointer (some ⟨z, 0, none⟩)]
abbrev rgV (z : Nat) : Value := .agg (rgC z)
theorem size70 : (Tryz.prog.info? 70).map (·.size) = some 1 := by kernel_rfl
theorem rg_load {w : World} {g z : Nat} (h : w.heap[g]? = some (.cells (rgC z) 70 (0, 0))) : (Instr.loadAt 70 (.pointer (some ⟨g, 0, none⟩))).run Tryz.prog w = .ok (rgV z) w := by
  simp only [Instr.loadAt, Instr.sureAddr, Sem.run_bind, Sem.run_pure, Result.andThen]
  exact run_loadVar_row w g 70 70 (rgC z) (0, 0) _ h Tryz.underlying70 rfl (by rw [size70]; rfl)
abbrev regC (c : Reg) : Array Value := #[.int .u64 c.s0, .int .u64 c.s1, .int .u64 c.s2, .int .u64 c.s3, .int .u64 c.s4, .int .u64 c.s5, .int .u64 c.s6, .int .u64 c.s7, .int .u64 c.s8, .int .u64 c.s9, .int .u64 c.s10, .int .u64 c.s11, .int .u64 c.s12, .int .u64 c.s13, .int .u64 c.s14, .int .u64 c.s15]
theorem reg_load {w : World} {g : Nat} {c : Reg} (h : w.heap[g]? = some (.cells (regC c) 25 (0, 0))) : (Instr.loadAt 25 (.pointer (some ⟨g, 0, none⟩))).run Tryz.prog w = .ok (regV c) w := by
  simp only [Instr.loadAt, Instr.sureAddr, Sem.run_bind, Sem.run_pure, Result.andThen]
  exact run_loadVar_row w g 25 25 (regC c) (0, 0) _ h Tryz.underlying25 rfl (by rw [size25]; rfl)
theorem MBox.load_reg {w : World} {g : Nat} {m : Mc} (k : MBox w g m) : (Instr.loadAt 25 (.pointer (some ⟨g, 34, none⟩))).run Tryz.prog w = .ok (regV m.h.c) w :=
  run_load_rowAt w g 34 42 25 (mcC m) (((tailL m.h).drop 2).take 16) _ k Tryz.underlying25 rfl (by rw [size25]; rfl) fun j v hv => by
    have hj : j < 16 := by have := (List.getElem?_eq_some_iff.1 hv).1; simpa [tailL] using this
    rw [List.getElem?_take_of_lt hj, List.getElem?_drop] at hv
    rw [show 34 + j = 32 + (2 + j) by omega, mcC_h m (32 + (2 + j)) (by omega), hartC_tail]
    exact hv
theorem MBox.load_mode {w : World} {g : Nat} {m : Mc} (k : MBox w g m) : (Instr.loadAt 3 (.pointer (some ⟨g, 33, none⟩))).run Tryz.prog w = .ok (.int .i64 m.h.mode) w :=
  run_load_at w g 33 3 _ _ Tryz.underlying3 rfl ((MBox.hcell k 1 (by decide)).trans rfl)
set_option maxRecDepth 100000 in
set_option maxHeartbeats 2000000 in
theorem mode_w (c : Reg) (W : World) : Calls Tryz.prog 155 #[regV c, .int .i64 3, .int .i64 0] W fun e W' => e = .returned (.int .i64 3) ∧ Below W.heap.size W W' := by
  go_enter Tryz.func155, Tryz.ntmps155
  go_wp2
  go_ret
  exact ⟨rfl, below1 W _⟩
set_option maxRecDepth 100000 in
set_option maxHeartbeats 2000000 in
theorem place_w (c : Reg) (dv mv ev : Value) (a : Int) (W : World) : Calls Tryz.prog 111 #[regV c, .int .i64 3, .agg #[dv, mv, ev], .int .u64 a, .int .i64 0] W fun e W' => e = .returned (.tuple #[.int .u64 a, .int .i64 (-1)]) ∧ Below W.heap.size W W' := by
  go_enter Tryz.func111, Tryz.ntmps111
  go_upto_region 1 with (fail)
  have B0 := below1 W (.cells (regC c) 25)
  have k0 : (W.alloc (.cells (regC c) 25)).heap[W.heap.size]? = some (.cells (regC c) 25 (0, 0)) := heap_alloc_last W _
  have B1 := below1 (W.alloc (.cells (regC c) 25)) (.cells #[dv, mv, ev] 39)
  have k1 := (B1.block _ (Array.getElem?_eq_some_iff.1 k0).1).trans k0
  have X := Lib.hid (below_then B0 B1)
  have KX := Lib.hid k1
  clear B0 B1 k0 k1
  generalize (W.alloc (.cells (regC c) 25)).alloc (.cells #[dv, mv, ev] 39) = wa at X KX ⊢
  go_wp2_with (first | (with_reducible refine wpList_load_by rfl rfl (reg_load KX.out) rfl ?_) | (go_at_call 155; (with_reducible refine (mode_w c _).mono ?_); rintro e wb ⟨rfl, kk⟩; have X := Lib.hid (below_then X.out kk); clear kk) | fail)
  go_ret2
  exact ⟨rfl, X.out⟩
set_option maxRecDepth 100000 in
set_option maxHeartbeats 2000000 in
theorem find_lo (z : Nat) (m : Mc) (W : World) (K : MBox W z m) (hm : m.h.mode = 3) : Calls Tryz.prog 91 #[rgV z, .int .u64 2147483648, .int .i64 0] W fun e W' => e = .returned (.tuple #[.int .u64 2147483648, .bool true]) ∧ Below W.heap.size W W' := by
  have K := Lib.hid K
  have HM := Lib.hid (fun w (h : MBox w z m) => hm ▸ MBox.load_mode h)
  clear hm
  go_enter Tryz.func91, Tryz.ntmps91
  have X := Lib.hid ((Mem.start W).new (rgC z) 70 (by decide))
  go_upto_region 1 with (fail)
  generalize W.alloc (.cells (rgC z) 70) = wa at X ⊢
  refine dr (fun w => MBox w z m ∧ w.heap[W.heap.size]? = some (.cells (rgC z) 70 (0, 0))) fun wz hzz => ?_
  have X := Lib.hid (X.out.next hzz)
  clear hzz
  have hS : MBox wz z m ∧ wz.heap[W.heap.size]? = some (.cells (rgC z) 70 (0, 0)) := ⟨K.out.next X.out.below, X.out.g0⟩
  have P0 := Lib.hid (fun w (h : MBox w z m ∧ w.heap[W.heap.size]? = some (.cells (rgC z) 70 (0, 0))) => run_load_cell (P := Tryz.prog) w W.heap.size 0 48 70 (rgC z) (.pointer (some ⟨z, 0, none⟩)) _ h.2 Tryz.underlying48 rfl rfl)
  refine tk 0 hS ?_
  refine tl 1 hS P0.out ?_
  refine tk 2 hS ?_
  refine tk 3 hS ?_
  refine tk 4 hS ?_
  refine tl 5 hS (fun w hw => MBox.load_reg hw.1) ?_
  refine tk 6 hS ?_
  refine tl 7 hS P0.out ?_
  refine tk 8 hS ?_
  refine tk 9 hS ?_
  refine tk 10 hS ?_
  refine tl 11 hS (fun w hw => HM.out w hw.1) ?_
  refine tk 12 hS ?_
  refine tl 13 hS P0.out ?_
  refine tk 14 hS ?_
  refine tk 15 hS ?_
  refine tl 16 hS (fun w hw => MBox.load_ram hw.1) ?_
  refine tk 17 hS ?_
  refine tk 18 hS ?_
  refine hc 19 (calls_told (place_w m.h.c m.dv m.mv (.int .u64 m.E) 2147483648 _)) ?_
  rintro v' wb ⟨rfl, kk⟩
  have X := Lib.hid (X.out.next kk)
  refine ⟨⟨K.out.next X.out.below, X.out.g0⟩, fun hS => ?_⟩
  clear kk
  simp only [puts]
  refine tk 20 hS ?_
  refine tk 21 hS ?_
  refine tk 22 hS ?_
  refine tk 23 hS ?_
  refine tk 24 hS ?_
  refine wpAnyH_done (by kernel_rfl) ?_ _
  go_wp2_with fail
  go_ret2
  exact ⟨rfl, X.out.below⟩
set_option maxRecDepth 100000 in
set_option maxHeartbeats 2000000 in
theorem load_lo (z : Nat) (m : Mc) (D : List UInt8) (W : World) (K : MBox W z m) (hd : DAt W m.dv D) (hv : ldV D 2147483648 2 = 1299) (hs : stE D.length 2147483648 2 = 0) : Calls Tryz.prog 98 #[.pointer (some ⟨z, 0, none⟩), .int .u64 2147483648, .int .i64 2] W fun e W' => e = .returned (.tuple #[.int .u64 1299, .bool true]) ∧ Below W.heap.size W W' := by
  have K := Lib.hid K
  have C1 := Lib.hid (by have h := load_all m.dv m.mv (.int .u64 m.E) D 2147483648 2 W hd (by decide) (by decide); rw [hv, hs] at h; exact h)
  clear hd hv hs
  go_enter Tryz.func98, Tryz.ntmps98
  go_wp2_with (first | (with_reducible refine wpList_load_by rfl rfl (MBox.load_ram K.out) rfl ?_) | (go_at_call 133; (with_reducible refine C1.out.mono ?_); rintro e wb ⟨rfl, kk⟩; have X := Lib.hid kk; clear kk) | fail)
  go_ret2
  exact ⟨rfl, X.out⟩
set_option maxRecDepth 100000 in
set_option maxHeartbeats 2000000 in
theorem mem_lo (z : Nat) (m : Mc) (D : List UInt8) (W : World) (K : MBox W z m) (hd : DAt W m.dv D) (hv : ldV D 2147483648 2 = 1299) (hs : stE D.length 2147483648 2 = 0) : Calls Tryz.prog 92 #[rgV z, .int .u64 2147483648, .int .i64 2] W fun e W' => e = .returned (.tuple #[.int .u64 1299, .bool true]) ∧ Below W.heap.size W W' := by
  have C1 := Lib.hid (fun w (h : Below W.heap.size W w) => load_lo z m D w (K.next h) (hd.below h) hv hs)
  clear K hd hv hs
  go_enter Tryz.func92, Tryz.ntmps92
  have X := Lib.hid ((Mem.start W).new (rgC z) 70 (by decide))
  go_upto_region 1 with (fail)
  generalize W.alloc (.cells (rgC z) 70) = wa at X ⊢
  have m_p : wa.cell? ⟨W.heap.size, 0, none⟩ = some (.pointer (some ⟨z, 0, none⟩)) := cell_of_row _ _ 0 _ 70 (0, 0) X.out.g0
  go_wp2_with (first | (go_at_call 98; (with_reducible refine (C1.out _ X.out.below).mono ?_); rintro e wb ⟨rfl, kk⟩; have X := Lib.hid (X.out.next kk); clear kk) | fail)
  go_ret2
  exact ⟨rfl, X.out.below⟩
set_option maxRecDepth 100000 in
set_option maxHeartbeats 2000000 in
theorem half_lo (z : Nat) (m : Mc) (D : List UInt8) (W : World) (K : MBox W z m) (hm : m.h.mode = 3) (hd : DAt W m.dv D) (hv : ldV D 2147483648 2 = 1299) (hs : stE D.length 2147483648 2 = 0) : Calls Tryz.prog 66 #[rgV z, .int .u64 2147483648] W fun e W' => e = .returned (.tuple #[.int .u64 1299, .bool true]) ∧ Below W.heap.size W W' := by
  have C1 := Lib.hid (fun w (h : Below W.heap.size W w) => mem_lo z m D w (K.next h) (hd.below h) hv hs)
  have C2 := Lib.hid (fun w (h : Below W.heap.size W w) => find_lo z m w (K.next h) hm)
  clear K hd hv hs hm
  go_enter Tryz.func66, Tryz.ntmps66
  have X := Lib.hid ((Mem.start W).new (rgC z) 70 (by decide))
  go_upto_region 1 with (fail)
  generalize W.alloc (.cells (rgC z) 70) = wa at X ⊢
  go_wp2_with (first | (with_reducible refine wpList_load_by rfl rfl (rg_load X.out.g0) rfl ?_) | (go_at_call 91; (with_reducible refine (C2.out _ X.out.below).mono ?_); rintro e wb ⟨rfl, kk⟩; have X := Lib.hid (X.out.next kk); clear kk) | (go_at_call 92; (with_reducible refine (C1.out _ X.out.below).mono ?_); rintro e wb ⟨rfl, kk⟩; have X := Lib.hid (X.out.next kk); clear kk) | fail)
  go_ret2
  exact ⟨rfl, X.out.below⟩
set_option maxRecDepth 100000 in
set_option maxHeartbeats 2000000 in
theorem find_hi (z : Nat) (m : Mc) (W : World) (K : MBox W z m) (hm : m.h.mode = 3) : Calls Tryz.prog 91 #[rgV z, .int .u64 2147483650, .int .i64 0] W fun e W' => e = .returned (.tuple #[.int .u64 2147483650, .bool true]) ∧ Below W.heap.size W W' := by
  have K := Lib.hid K
  have HM := Lib.hid (fun w (h : MBox w z m) => hm ▸ MBox.load_mode h)
  clear hm
  go_enter Tryz.func91, Tryz.ntmps91
  have X := Lib.hid ((Mem.start W).new (rgC z) 70 (by decide))
  go_upto_region 1 with (fail)
  generalize W.alloc (.cells (rgC z) 70) = wa at X ⊢
  refine dr (fun w => MBox w z m ∧ w.heap[W.heap.size]? = some (.cells (rgC z) 70 (0, 0))) fun wz hzz => ?_
  have X := Lib.hid (X.out.next hzz)
  clear hzz
  have hS : MBox wz z m ∧ wz.heap[W.heap.size]? = some (.cells (rgC z) 70 (0, 0)) := ⟨K.out.next X.out.below, X.out.g0⟩
  have P0 := Lib.hid (fun w (h : MBox w z m ∧ w.heap[W.heap.size]? = some (.cells (rgC z) 70 (0, 0))) => run_load_cell (P := Tryz.prog) w W.heap.size 0 48 70 (rgC z) (.pointer (some ⟨z, 0, none⟩)) _ h.2 Tryz.underlying48 rfl rfl)
  refine tk 0 hS ?_
  refine tl 1 hS P0.out ?_
  refine tk 2 hS ?_
  refine tk 3 hS ?_
  refine tk 4 hS ?_
  refine tl 5 hS (fun w hw => MBox.load_reg hw.1) ?_
  refine tk 6 hS ?_
  refine tl 7 hS P0.out ?_
  refine tk 8 hS ?_
  refine tk 9 hS ?_
  refine tk 10 hS ?_
  refine tl 11 hS (fun w hw => HM.out w hw.1) ?_
  refine tk 12 hS ?_
  refine tl 13 hS P0.out ?_
  refine tk 14 hS ?_
  refine tk 15 hS ?_
  refine tl 16 hS (fun w hw => MBox.load_ram hw.1) ?_
  refine tk 17 hS ?_
  refine tk 18 hS ?_
  refine hc 19 (calls_told (place_w m.h.c m.dv m.mv (.int .u64 m.E) 2147483650 _)) ?_
  rintro v' wb ⟨rfl, kk⟩
  have X := Lib.hid (X.out.next kk)
  refine ⟨⟨K.out.next X.out.below, X.out.g0⟩, fun hS => ?_⟩
  clear kk
  simp only [puts]
  refine tk 20 hS ?_
  refine tk 21 hS ?_
  refine tk 22 hS ?_
  refine tk 23 hS ?_
  refine tk 24 hS ?_
  refine wpAnyH_done (by kernel_rfl) ?_ _
  go_wp2_with fail
  go_ret2
  exact ⟨rfl, X.out.below⟩
set_option maxRecDepth 100000 in
set_option maxHeartbeats 2000000 in
theorem load_hi (z : Nat) (m : Mc) (D : List UInt8) (W : World) (K : MBox W z m) (hd : DAt W m.dv D) (hv : ldV D 2147483650 2 = 80) (hs : stE D.length 2147483650 2 = 0) : Calls Tryz.prog 98 #[.pointer (some ⟨z, 0, none⟩), .int .u64 2147483650, .int .i64 2] W fun e W' => e = .returned (.tuple #[.int .u64 80, .bool true]) ∧ Below W.heap.size W W' := by
  have K := Lib.hid K
  have C1 := Lib.hid (by have h := load_all m.dv m.mv (.int .u64 m.E) D 2147483650 2 W hd (by decide) (by decide); rw [hv, hs] at h; exact h)
  clear hd hv hs
  go_enter Tryz.func98, Tryz.ntmps98
  go_wp2_with (first | (with_reducible refine wpList_load_by rfl rfl (MBox.load_ram K.out) rfl ?_) | (go_at_call 133; (with_reducible refine C1.out.mono ?_); rintro e wb ⟨rfl, kk⟩; have X := Lib.hid kk; clear kk) | fail)
  go_ret2
  exact ⟨rfl, X.out⟩
set_option maxRecDepth 100000 in
set_option maxHeartbeats 2000000 in
theorem mem_hi (z : Nat) (m : Mc) (D : List UInt8) (W : World) (K : MBox W z m) (hd : DAt W m.dv D) (hv : ldV D 2147483650 2 = 80) (hs : stE D.length 2147483650 2 = 0) : Calls Tryz.prog 92 #[rgV z, .int .u64 2147483650, .int .i64 2] W fun e W' => e = .returned (.tuple #[.int .u64 80, .bool true]) ∧ Below W.heap.size W W' := by
  have C1 := Lib.hid (fun w (h : Below W.heap.size W w) => load_hi z m D w (K.next h) (hd.below h) hv hs)
  clear K hd hv hs
  go_enter Tryz.func92, Tryz.ntmps92
  have X := Lib.hid ((Mem.start W).new (rgC z) 70 (by decide))
  go_upto_region 1 with (fail)
  generalize W.alloc (.cells (rgC z) 70) = wa at X ⊢
  have m_p : wa.cell? ⟨W.heap.size, 0, none⟩ = some (.pointer (some ⟨z, 0, none⟩)) := cell_of_row _ _ 0 _ 70 (0, 0) X.out.g0
  go_wp2_with (first | (go_at_call 98; (with_reducible refine (C1.out _ X.out.below).mono ?_); rintro e wb ⟨rfl, kk⟩; have X := Lib.hid (X.out.next kk); clear kk) | fail)
  go_ret2
  exact ⟨rfl, X.out.below⟩
set_option maxRecDepth 100000 in
set_option maxHeartbeats 2000000 in
theorem half_hi (z : Nat) (m : Mc) (D : List UInt8) (W : World) (K : MBox W z m) (hm : m.h.mode = 3) (hd : DAt W m.dv D) (hv : ldV D 2147483650 2 = 80) (hs : stE D.length 2147483650 2 = 0) : Calls Tryz.prog 66 #[rgV z, .int .u64 2147483650] W fun e W' => e = .returned (.tuple #[.int .u64 80, .bool true]) ∧ Below W.heap.size W W' := by
  have C1 := Lib.hid (fun w (h : Below W.heap.size W w) => mem_hi z m D w (K.next h) (hd.below h) hv hs)
  have C2 := Lib.hid (fun w (h : Below W.heap.size W w) => find_hi z m w (K.next h) hm)
  clear K hd hv hs hm
  go_enter Tryz.func66, Tryz.ntmps66
  have X := Lib.hid ((Mem.start W).new (rgC z) 70 (by decide))
  go_upto_region 1 with (fail)
  generalize W.alloc (.cells (rgC z) 70) = wa at X ⊢
  go_wp2_with (first | (with_reducible refine wpList_load_by rfl rfl (rg_load X.out.g0) rfl ?_) | (go_at_call 91; (with_reducible refine (C2.out _ X.out.below).mono ?_); rintro e wb ⟨rfl, kk⟩; have X := Lib.hid (X.out.next kk); clear kk) | (go_at_call 92; (with_reducible refine (C1.out _ X.out.below).mono ?_); rintro e wb ⟨rfl, kk⟩; have X := Lib.hid (X.out.next kk); clear kk) | fail)
  go_ret2
  exact ⟨rfl, X.out.below⟩

end Go.Proofs.YtjohcpokmdofkaaGreatDoor
namespace Go.Proofs.YtjohcpokmdofkaaGreatDoor
open Go.RowKit Go.Deep Go.Joins
/-- What a step works on. -/
abbrev wkG (z : Nat) (o r a b i wd np l : Int) : Array Value := #[.pointer (some ⟨z, 0, none⟩), .int .i64 o, .int .i64 r, .int .i64 a, .int .i64 b, .int .i64 i, .int .u32 wd, .int .u64 np, .int .u64 l]
theorem wk_ptr {w : World} {k z : Nat} {o r a b i wd np l : Int} (h : w.heap[k]? = some (.cells (wkG z o r a b i wd np l) 75 (0, 0))) : (Instr.loadAt 48 (.pointer (some ⟨k, 0, none⟩))).run Tryz.prog w = .ok (.pointer (some ⟨z, 0, none⟩)) w := run_load_cell w k 0 48 75 _ _ _ h Tryz.underlying48 rfl rfl
theorem wk_op {w : World} {k z : Nat} {o r a b i wd np l : Int} (h : w.heap[k]? = some (.cells (wkG z o r a b i wd np l) 75 (0, 0))) : (Instr.loadAt 3 (.pointer (some ⟨k, 1, none⟩))).run Tryz.prog w = .ok (.int .i64 o) w := run_load_cell w k 1 3 75 _ _ _ h Tryz.underlying3 rfl rfl
theorem wk_rd {w : World} {k z : Nat} {o r a b i wd np l : Int} (h : w.heap[k]? = some (.cells (wkG z o r a b i wd np l) 75 (0, 0))) : (Instr.loadAt 3 (.pointer (some ⟨k, 2, none⟩))).run Tryz.prog w = .ok (.int .i64 r) w := run_load_cell w k 2 3 75 _ _ _ h Tryz.underlying3 rfl rfl
theorem wk_rs1 {w : World} {k z : Nat} {o r a b i wd np l : Int} (h : w.heap[k]? = some (.cells (wkG z o r a b i wd np l) 75 (0, 0))) : (Instr.loadAt 3 (.pointer (some ⟨k, 3, none⟩))).run Tryz.prog w = .ok (.int .i64 a) w := run_load_cell w k 3 3 75 _ _ _ h Tryz.underlying3 rfl rfl
theorem wk_rs2 {w : World} {k z : Nat} {o r a b i wd np l : Int} (h : w.heap[k]? = some (.cells (wkG z o r a b i wd np l) 75 (0, 0))) : (Instr.loadAt 3 (.pointer (some ⟨k, 4, none⟩))).run Tryz.prog w = .ok (.int .i64 b) w := run_load_cell w k 4 3 75 _ _ _ h Tryz.underlying3 rfl rfl
theorem wk_imm {w : World} {k z : Nat} {o r a b i wd np l : Int} (h : w.heap[k]? = some (.cells (wkG z o r a b i wd np l) 75 (0, 0))) : (Instr.loadAt 2 (.pointer (some ⟨k, 5, none⟩))).run Tryz.prog w = .ok (.int .i64 i) w := run_load_cell w k 5 2 75 _ _ _ h Tryz.underlying2 rfl rfl
theorem wk_wd {w : World} {k z : Nat} {o r a b i wd np l : Int} (h : w.heap[k]? = some (.cells (wkG z o r a b i wd np l) 75 (0, 0))) : (Instr.loadAt 29 (.pointer (some ⟨k, 6, none⟩))).run Tryz.prog w = .ok (.int .u32 wd) w := run_load_cell w k 6 29 75 _ _ _ h Tryz.underlying29 rfl rfl
theorem wk_np {w : World} {k z : Nat} {o r a b i wd np l : Int} (h : w.heap[k]? = some (.cells (wkG z o r a b i wd np l) 75 (0, 0))) : (Instr.loadAt 22 (.pointer (some ⟨k, 7, none⟩))).run Tryz.prog w = .ok (.int .u64 np) w := run_load_cell w k 7 22 75 _ _ _ h Tryz.underlying22 rfl rfl
theorem wk_l {w : World} {k z : Nat} {o r a b i wd np l : Int} (h : w.heap[k]? = some (.cells (wkG z o r a b i wd np l) 75 (0, 0))) : (Instr.loadAt 22 (.pointer (some ⟨k, 8, none⟩))).run Tryz.prog w = .ok (.int .u64 l) w := run_load_cell w k 8 22 75 _ _ _ h Tryz.underlying22 rfl rfl
theorem wk_rg {w : World} {k z : Nat} {o r a b i wd np l : Int} (h : w.heap[k]? = some (.cells (wkG z o r a b i wd np l) 75 (0, 0))) : (Instr.loadAt 70 (.pointer (some ⟨k, 0, none⟩))).run Tryz.prog w = .ok (rgV z) w :=
  run_load_rowAt w k 0 75 70 _ [.pointer (some ⟨z, 0, none⟩)] _ h Tryz.underlying70 rfl (by rw [size70]; rfl) fun j v hv => by
    match j, hv with
    | 0, hv => exact hv
    | j + 1, hv => simp at hv
theorem wk_setwd {w : World} {k z : Nat} {o r a b i wd np l : Int} (h : w.heap[k]? = some (.cells (wkG z o r a b i wd np l) 75 (0, 0))) (v : Int) : (Instr.storeAt 29 (.pointer (some ⟨k, 6, none⟩)) (.int .u32 v)).run Tryz.prog w = .ok () (w.setRow k (wkG z o r a b i v np l)) := run_store_cell w k 6 29 75 _ _ h (by kernel_rfl) (show 6 < 9 by decide) rfl rfl
theorem wk_setnp {w : World} {k z : Nat} {o r a b i wd np l : Int} (h : w.heap[k]? = some (.cells (wkG z o r a b i wd np l) 75 (0, 0))) (v : Int) : (Instr.storeAt 22 (.pointer (some ⟨k, 7, none⟩)) (.int .u64 v)).run Tryz.prog w = .ok () (w.setRow k (wkG z o r a b i wd v l)) := run_store_cell w k 7 22 75 _ _ h size22 (show 7 < 9 by decide) rfl rfl
theorem wk_setin {w : World} {k z : Nat} {o r a b i wd np l : Int} (h : w.heap[k]? = some (.cells (wkG z o r a b i wd np l) 75 (0, 0))) : (Instr.storeAt 73 (.pointer (some ⟨k, 1, none⟩)) (.agg inC)).run Tryz.prog w = .ok () (w.setRow k (wkG z 22 10 0 0 5 wd np l)) :=
  run_store_part w k 1 75 73 (wkG z o r a b i wd np l) (wkG z 22 10 0 0 5 wd np l) inC h (by rw [size73]; rfl) (by simp [Value.oneCell']) (show 1 + 5 ≤ 9 by decide) rfl
theorem wk_own {w : World} {k z : Nat} {o r a b i wd np l : Int} (h : w.heap[k]? = some (.cells (wkG z o r a b i wd np l) 75 (0, 0))) (cs : Array Value) : (w.setRow k cs).heap[k]? = some (.cells cs 75 (0, 0)) := setRow_heap w k _ cs 75 (0, 0) h
theorem MBox.load_pc {w : World} {g : Nat} {m : Mc} (k : MBox w g m) : (Instr.loadAt 22 (.pointer (some ⟨g, 32, none⟩))).run Tryz.prog w = .ok (.int .u64 m.h.pc) w :=
  run_load_at w g 32 22 _ _ Tryz.underlying22 rfl ((MBox.hcell k 0 (by decide)).trans rfl)
set_option maxRecDepth 100000 in
set_option maxHeartbeats 2000000 in
theorem fetch_w (z wk : Nat) (m : Mc) (D : List UInt8) (l : Int) (W : World) (K : MBox W z m) (Kw : W.heap[wk]? = some (.cells (wkG z 0 0 0 0 0 0 0 l) 75 (0, 0))) (hm : m.h.mode = 3) (hp : m.h.pc = 2147483648) (hd : DAt W m.dv D) (h1 : ldV D 2147483648 2 = 1299) (s1 : stE D.length 2147483648 2 = 0) (h2 : ldV D 2147483650 2 = 80) (s2 : stE D.length 2147483650 2 = 0) : Calls Tryz.prog 40 #[.pointer (some ⟨wk, 0, none⟩)] W fun e W' => e = .returned (.bool true) ∧ W'.heap[wk]? = some (.cells (wkG z 0 0 0 0 0 5244179 2147483652 l) 75 (0, 0)) ∧ Touch W W' (fun k => k = wk) := by
  have C1 := Lib.hid (fun w (h : Below W.heap.size W w) => half_lo z m D w (K.next h) hm (hd.below h) h1 s1)
  have C2 := Lib.hid (fun w (h : Below W.heap.size W w) => half_hi z m D w (K.next h) hm (hd.below h) h2 s2)
  have KZ := Lib.hid (fun w (h : Below W.heap.size W w) => hp ▸ MBox.load_pc (K.next h))
  have KW := Lib.hid (fun w (h : Below W.heap.size W w) => (h.block wk (Array.getElem?_eq_some_iff.1 Kw).1).trans Kw)
  clear K Kw hm hp hd h1 s1 h2 s2
  have X := Lib.hid (Below.refl W.heap.size W)
  go_enter Tryz.func40, Tryz.ntmps40
  go_upto_region 14 with (first | (with_reducible refine wpList_load_by rfl rfl (wk_ptr (KW.out _ X.out)) rfl ?_) | (with_reducible refine wpList_load_by rfl rfl (wk_rg (KW.out _ X.out)) rfl ?_) | (with_reducible refine wpList_load_by rfl rfl (KZ.out _ X.out) rfl ?_) | (go_at_call 66; (first | (with_reducible refine (C1.out _ X.out).mono ?_) | (with_reducible refine (C2.out _ X.out).mono ?_)); rintro e wb ⟨rfl, kk⟩; have X := Lib.hid (below_then X.out kk); clear kk) | (go_at_call 67; (with_reducible refine (short_w _).mono ?_); rintro e w8 ⟨rfl, rfl⟩) | fail)
  have kw := Lib.hid (KW.out _ X.out)
  have k1 := Lib.hid (wk_own kw.out (wkG z 0 0 0 0 0 5244179 0 l))
  have k2 := Lib.hid (wk_own k1.out (wkG z 0 0 0 0 0 5244179 2147483652 l))
  have T := Lib.hid (((touch_of_below X.out (fun k => k = wk)).setRow (.inl rfl) (wkG z 0 0 0 0 0 5244179 0 l)).setRow (.inl rfl) (wkG z 0 0 0 0 0 5244179 2147483652 l))
  go_wp2_with (first | (with_reducible refine wpList_store_by rfl rfl (wk_setwd kw.out _) rfl rfl ?_) | (with_reducible refine wpList_store_by rfl rfl (wk_setnp k1.out _) rfl rfl ?_) | fail)
  go_ret
  exact ⟨rfl, k2.out, T.out⟩
set_option maxRecDepth 100000 in
set_option maxHeartbeats 2000000 in
theorem decode_w (z wk : Nat) (l : Int) (W : World) (hL : LaidN W) (Kw : W.heap[wk]? = some (.cells (wkG z 0 0 0 0 0 5244179 2147483652 l) 75 (0, 0))) : Calls Tryz.prog 41 #[.pointer (some ⟨wk, 0, none⟩)] W fun e W' => e = .returned (.bool true) ∧ W'.heap[wk]? = some (.cells (wkG z 22 10 0 0 5 5244179 2147483652 l) 75 (0, 0)) ∧ Touch W W' (fun k => k = wk) := by
  have HL := Lib.hid hL
  have KW := Lib.hid (fun w (h : Below W.heap.size W w) => (h.block wk (Array.getElem?_eq_some_iff.1 Kw).1).trans Kw)
  clear hL Kw
  have X := Lib.hid (Mem.start W)
  go_enter Tryz.func41, Tryz.ntmps41
  go_upto_region 2 with (first | (with_reducible refine wpList_load_by rfl rfl (wk_wd (KW.out _ X.out.below)) rfl ?_) | (go_at_call 70; (with_reducible refine (word_w _ (HL.out.below X.out.below)).mono ?_); rintro e wb ⟨rfl, kk⟩; have X := Lib.hid (X.out.next kk); clear kk) | (with_reducible refine wpList_store_by rfl rfl (in_store (X.out.new inZ 73 (by decide)).g0 rfl) rfl rfl ?_) | fail)
  have X := Lib.hid ((X.out.new inZ 73 (by decide)).p0 (cs' := inC) rfl)
  generalize wb.heap.size = gi at X ⊢
  generalize (wb.alloc (.cells inZ 73)).setRow gi inC = wc at X ⊢
  have kw := Lib.hid (KW.out _ X.out.below)
  have k1 := Lib.hid (wk_own kw.out (wkG z 22 10 0 0 5 5244179 2147483652 l))
  have T := Lib.hid ((touch_of_below X.out.below (fun k => k = wk)).setRow (.inl rfl) (wkG z 22 10 0 0 5 5244179 2147483652 l))
  go_wp2_with (first | (with_reducible refine wpList_load_by rfl rfl (in_load X.out.g0) rfl ?_) | (with_reducible refine wpList_store_by rfl rfl (wk_setin kw.out) rfl rfl ?_) | fail)
  go_ret
  exact ⟨rfl, k1.out, T.out⟩

end Go.Proofs.YtjohcpokmdofkaaGreatDoor
namespace Go.Proofs.YtjohcpokmdofkaaGreatDoor
open Go.RowKit Go.Deep Go.Joins
theorem calls_any {f : FuncId} {args : Array Value} {w : World} {v : Value} {R : World → Prop} (h : Calls Tryz.prog f args w fun e w' => e = .returned v ∧ R w') : Calls Tryz.prog f args w fun e w' => ∃ u, e = .returned u ∧ (u = v ∧ R w') := h.mono fun _ _ h => ⟨_, h.1, rfl, h.2⟩
/-- A machine, its register 10 set. -/
def x10H (h : Hart) : Hart := { h with x := h.x.set 10 5, hx := by rw [List.length_set]; exact h.hx }
def xM (m : Mc) : Mc := { m with h := x10H m.h }
theorem MBox.load_x0 {w : World} {g : Nat} {m : Mc} (k : MBox w g m) (h0 : m.h.x[0]? = some 0) : (Instr.loadAt 22 (.pointer (some ⟨g, 0, none⟩))).run Tryz.prog w = .ok (.int .u64 0) w :=
  run_load_cell w g 0 22 42 (mcC m) _ _ k Tryz.underlying22 rfl ((mcC_h m 0 (by decide)).trans ((hartC_x m.h 0 (by decide)).trans (by unfold xL; rw [List.getElem?_map, h0]; rfl)))
set_option maxRecDepth 100000 in
set_option maxHeartbeats 4000000 in
theorem a_w (z wk : Nat) (m : Mc) (l : Int) (W : World) (K : MBox W z m) (Kw : W.heap[wk]? = some (.cells (wkG z 22 10 0 0 5 5244179 2147483652 l) 75 (0, 0))) (h0 : m.h.x[0]? = some 0) : Calls Tryz.prog 75 #[.pointer (some ⟨wk, 0, none⟩)] W fun e W' => e = .returned (.int .u64 0) ∧ Below W.heap.size W W' := by
  have KS := Lib.hid (fun w (h : Below W.heap.size W w) => (And.intro (K.next h) ((h.block wk (Array.getElem?_eq_some_iff.1 Kw).1).trans Kw) : MBox w z m ∧ w.heap[wk]? = some (.cells (wkG z 22 10 0 0 5 5244179 2147483652 l) 75 (0, 0))))
  have H0 := Lib.hid h0
  clear K Kw h0
  have X := Lib.hid (Below.refl W.heap.size W)
  go_enter Tryz.func75, Tryz.ntmps75
  go_upto_region 1 with (fail)
  refine dr (fun w => MBox w z m ∧ w.heap[wk]? = some (.cells (wkG z 22 10 0 0 5 5244179 2147483652 l) 75 (0, 0))) fun wz hzz => ?_
  have X := Lib.hid (below_then X.out hzz)
  clear hzz
  have hS := KS.out _ X.out
  refine tk 0 hS ?_
  refine tk 1 hS ?_
  refine tk 2 hS ?_
  refine tk 3 hS ?_
  refine tl 4 hS (fun w hw => wk_ptr hw.2) ?_
  refine tk 5 hS ?_
  refine tk 6 hS ?_
  refine tk 7 hS ?_
  refine tk 8 hS ?_
  refine tl 9 hS (fun w hw => wk_rs1 hw.2) ?_
  refine tk 10 hS ?_
  refine tk 11 hS ?_
  refine tk 12 hS ?_
  refine tk 13 hS ?_
  refine tl 14 hS (fun w hw => MBox.load_x0 hw.1 H0.out) ?_
  refine tk 15 hS ?_
  refine wpAnyH_done (by kernel_rfl) ?_ _
  go_wp2_with fail
  go_ret
  exact ⟨rfl, X.out⟩
set_option maxRecDepth 100000 in
set_option maxHeartbeats 4000000 in
theorem b_w (z wk : Nat) (m : Mc) (l : Int) (W : World) (K : MBox W z m) (Kw : W.heap[wk]? = some (.cells (wkG z 22 10 0 0 5 5244179 2147483652 l) 75 (0, 0))) (h0 : m.h.x[0]? = some 0) : Calls Tryz.prog 97 #[.pointer (some ⟨wk, 0, none⟩)] W fun e W' => e = .returned (.int .u64 0) ∧ Below W.heap.size W W' := by
  have KS := Lib.hid (fun w (h : Below W.heap.size W w) => (And.intro (K.next h) ((h.block wk (Array.getElem?_eq_some_iff.1 Kw).1).trans Kw) : MBox w z m ∧ w.heap[wk]? = some (.cells (wkG z 22 10 0 0 5 5244179 2147483652 l) 75 (0, 0))))
  have H0 := Lib.hid h0
  clear K Kw h0
  have X := Lib.hid (Below.refl W.heap.size W)
  go_enter Tryz.func97, Tryz.ntmps97
  go_upto_region 1 with (fail)
  refine dr (fun w => MBox w z m ∧ w.heap[wk]? = some (.cells (wkG z 22 10 0 0 5 5244179 2147483652 l) 75 (0, 0))) fun wz hzz => ?_
  have X := Lib.hid (below_then X.out hzz)
  clear hzz
  have hS := KS.out _ X.out
  refine tk 0 hS ?_
  refine tk 1 hS ?_
  refine tk 2 hS ?_
  refine tk 3 hS ?_
  refine tl 4 hS (fun w hw => wk_ptr hw.2) ?_
  refine tk 5 hS ?_
  refine tk 6 hS ?_
  refine tk 7 hS ?_
  refine tk 8 hS ?_
  refine tl 9 hS (fun w hw => wk_rs2 hw.2) ?_
  refine tk 10 hS ?_
  refine tk 11 hS ?_
  refine tk 12 hS ?_
  refine tk 13 hS ?_
  refine tl 14 hS (fun w hw => MBox.load_x0 hw.1 H0.out) ?_
  refine tk 15 hS ?_
  refine wpAnyH_done (by kernel_rfl) ?_ _
  go_wp2_with fail
  go_ret
  exact ⟨rfl, X.out⟩
set_option maxRecDepth 100000 in
set_option maxHeartbeats 4000000 in
theorem imm_w (z wk : Nat) (l : Int) (W : World) (Kw : W.heap[wk]? = some (.cells (wkG z 22 10 0 0 5 5244179 2147483652 l) 75 (0, 0))) : Calls Tryz.prog 73 #[.pointer (some ⟨wk, 0, none⟩)] W fun e W' => e = .returned (.int .u64 5) ∧ W = W' := by
  have KW := Lib.hid Kw
  clear Kw
  go_enter Tryz.func73, Tryz.ntmps73
  go_wp2_with (first | (with_reducible refine wpList_load_by rfl rfl (wk_imm KW.out) rfl ?_) | fail)
  go_ret
  exact ⟨rfl, rfl⟩
set_option maxRecDepth 100000 in
set_option maxHeartbeats 4000000 in
theorem put_w (z : Nat) (m : Mc) (W : World) (K : MBox W z m) : Calls Tryz.prog 95 #[rgV z, .int .i64 10, .int .u64 5] W fun e W' => e = .returned (.tuple #[]) ∧ ∃ wx, Below W.heap.size W wx ∧ W' = wx.setRow z (mcC (xM m)) := by
  have KZ := Lib.hid (fun w (h : Below W.heap.size W w) => K.next h)
  clear K
  go_enter Tryz.func95, Tryz.ntmps95
  have X := Lib.hid ((Mem.start W).new (rgC z) 70 (by decide))
  go_upto_region 1 with (fail)
  generalize W.alloc (.cells (rgC z) 70) = wa at X ⊢
  have m_p : wa.cell? ⟨W.heap.size, 0, none⟩ = some (.pointer (some ⟨z, 0, none⟩)) := cell_of_row _ _ 0 _ 70 (0, 0) X.out.g0
  have S1 := Lib.hid (MBox.store_x (m' := xM m) (KZ.out _ X.out.below) 10 5 (by decide) rfl rfl rfl rfl)
  go_wp2_with (first | (with_reducible refine wpList_store_by rfl rfl S1.out rfl rfl ?_) | fail)
  refine bodyPost_end (results_none rfl _ _ _) rfl ⟨rfl, ?_⟩
  exact ⟨_, X.out.below, rfl⟩
set_option maxRecDepth 100000 in
set_option maxHeartbeats 4000000 in
theorem result_w (z wk : Nat) (m : Mc) (l : Int) (W : World) (K : MBox W z m) (Kw : W.heap[wk]? = some (.cells (wkG z 22 10 0 0 5 5244179 2147483652 l) 75 (0, 0))) : Calls Tryz.prog 72 #[.pointer (some ⟨wk, 0, none⟩), .int .u64 5] W fun e W' => e = .returned (.bool true) ∧ ∃ wx, Below W.heap.size W wx ∧ W' = wx.setRow z (mcC (xM m)) := by
  have HNE := Lib.hid (show wk ≠ z from fun e => by rw [e, K] at Kw; simp only [Option.some.injEq, Obj.cells.injEq] at Kw; exact absurd Kw.2.1 (by decide))
  have KW := Lib.hid (fun w (h : Below W.heap.size W w) => (h.block wk (Array.getElem?_eq_some_iff.1 Kw).1).trans Kw)
  have C1 := Lib.hid (fun w (h : Below W.heap.size W w) => put_w z m w (K.next h))
  clear K Kw
  have X := Lib.hid (Below.refl W.heap.size W)
  go_enter Tryz.func72, Tryz.ntmps72
  go_upto_region 1 with (fail)
  refine dr (fun w => w.heap[wk]? = some (.cells (wkG z 22 10 0 0 5 5244179 2147483652 l) 75 (0, 0))) fun wz hzz => ?_
  have X := Lib.hid (below_then X.out hzz)
  clear hzz
  have hS := KW.out _ X.out
  refine tk 0 hS ?_
  refine tk 1 hS ?_
  refine tk 2 hS ?_
  refine tl 3 hS (fun w hw => wk_rg hw) ?_
  refine tk 4 hS ?_
  refine tk 5 hS ?_
  refine tk 6 hS ?_
  refine tk 7 hS ?_
  refine tl 8 hS (fun w hw => wk_rd hw) ?_
  refine tk 9 hS ?_
  refine hc 10 (calls_any (C1.out _ X.out)) ?_
  rintro v' wb ⟨rfl, wx, kk, hw⟩
  have X := Lib.hid (below_then X.out kk)
  have kw : wb.heap[wk]? = some (.cells (wkG z 22 10 0 0 5 5244179 2147483652 l) 75 (0, 0)) := by rw [hw]; exact (setRow_other _ _ _ _ HNE.out).trans (KW.out _ X.out)
  have HW := Lib.hid hw
  refine ⟨kw, fun hS => ?_⟩
  clear kk kw hw
  simp only [puts]
  refine wpAnyH_done (by kernel_rfl) ?_ _
  go_wp2_with fail
  go_ret
  exact ⟨rfl, _, X.out, HW.out⟩
set_option maxRecDepth 100000 in
set_option maxHeartbeats 4000000 in
theorem sumw_w (z wk : Nat) (m : Mc) (l : Int) (W : World) (K : MBox W z m) (Kw : W.heap[wk]? = some (.cells (wkG z 22 10 0 0 5 5244179 2147483652 l) 75 (0, 0))) (h0 : m.h.x[0]? = some 0) : Calls Tryz.prog 85 #[.pointer (some ⟨wk, 0, none⟩)] W fun e W' => e = .returned (.bool true) ∧ ∃ wx, Below W.heap.size W wx ∧ W' = wx.setRow z (mcC (xM m)) := by
  have KW := Lib.hid (fun w (h : Below W.heap.size W w) => (h.block wk (Array.getElem?_eq_some_iff.1 Kw).1).trans Kw)
  have C1 := Lib.hid (fun w (h : Below W.heap.size W w) => a_w z wk m l w (K.next h) (KW.out w h) h0)
  have C2 := Lib.hid (fun w (h : Below W.heap.size W w) => b_w z wk m l w (K.next h) (KW.out w h) h0)
  have C3 := Lib.hid (fun w (h : Below W.heap.size W w) => result_w z wk m l w (K.next h) (KW.out w h))
  clear K Kw h0
  have X := Lib.hid (Below.refl W.heap.size W)
  go_enter Tryz.func85, Tryz.ntmps85
  go_upto_region 4 with (first | (with_reducible refine wpList_load_by rfl rfl (wk_op (KW.out _ X.out)) rfl ?_) | (go_at_call 97; (with_reducible refine (C2.out _ X.out).mono ?_); rintro e wb ⟨rfl, kk⟩; have X := Lib.hid (below_then X.out kk); clear kk) | (go_at_call 109; (with_reducible refine (ofnumber_w _).mono ?_); rintro e w8 ⟨rfl, rfl⟩) | (go_at_call 73; (with_reducible refine (imm_w z wk l _ (KW.out _ X.out)).mono ?_); rintro e w8 ⟨rfl, rfl⟩) | fail)
  refine dr (fun w => w.heap[wk]? = some (.cells (wkG z 22 10 0 0 5 5244179 2147483652 l) 75 (0, 0))) fun wz hzz => ?_
  have X := Lib.hid (below_then X.out hzz)
  clear hzz
  have hS := KW.out _ X.out
  refine tk 0 hS ?_
  refine tk 1 hS ?_
  refine tk 2 hS ?_
  refine tk 3 hS ?_
  refine tl 4 hS (fun w hw => wk_op hw) ?_
  refine tk 5 hS ?_
  refine tk 7 hS ?_
  refine hc 6 (calls_told (C1.out _ X.out)) ?_
  rintro v' wb ⟨rfl, kk⟩
  have X := Lib.hid (below_then X.out kk)
  refine ⟨KW.out _ X.out, fun hS => ?_⟩
  clear kk
  simp only [puts]
  refine hc 8 (calls_quiet (do_w _)) ?_
  rintro v' wb ⟨rfl, rfl⟩
  refine ⟨hS, fun hS => ?_⟩
  simp only [puts]
  refine tk 9 hS ?_
  refine tk 10 hS ?_
  refine tk 11 hS ?_
  refine tk 12 hS ?_
  refine tk 13 hS ?_
  refine wpAnyH_done (by kernel_rfl) ?_ _
  go_wp2_with (first | (go_at_call 72; (with_reducible refine (C3.out _ X.out).mono ?_); rintro e wb ⟨rfl, wx, kk, hw⟩; have X := Lib.hid (below_then X.out kk); have HW := Lib.hid hw; clear kk hw) | fail)
  go_ret
  exact ⟨rfl, _, X.out, HW.out⟩
set_option maxRecDepth 100000 in
set_option maxHeartbeats 4000000 in
theorem doing_w (z wk : Nat) (m : Mc) (l : Int) (W : World) (K : MBox W z m) (Kw : W.heap[wk]? = some (.cells (wkG z 22 10 0 0 5 5244179 2147483652 l) 75 (0, 0))) (h0 : m.h.x[0]? = some 0) : Calls Tryz.prog 42 #[.pointer (some ⟨wk, 0, none⟩)] W fun e W' => e = .returned (.bool true) ∧ ∃ wx, Below W.heap.size W wx ∧ W' = wx.setRow z (mcC (xM m)) := by
  have KW := Lib.hid Kw
  have C1 := Lib.hid (sumw_w z wk m l W K Kw h0)
  clear K Kw h0
  go_enter Tryz.func42, Tryz.ntmps42
  go_wp2_with (first | (with_reducible refine wpList_load_by rfl rfl (wk_op KW.out) rfl ?_) | (go_at_call 83; (with_reducible refine (atomic_w _).mono ?_); rintro e w8 ⟨rfl, rfl⟩) | (go_at_call 85; (with_reducible refine C1.out.mono ?_); rintro e wb ⟨rfl, hw⟩; have HW := Lib.hid hw; clear hw) | fail)
  go_ret
  exact ⟨rfl, HW.out⟩

end Go.Proofs.YtjohcpokmdofkaaGreatDoor
namespace Go.Proofs.YtjohcpokmdofkaaGreatDoor
open Go.RowKit Go.Deep Go.Joins
/-- A machine behind the word. -/
def pc52H (h : Hart) : Hart := { h with pc := 2147483652 }
def pcM (m : Mc) : Mc := { m with h := pc52H m.h }
def cntM (m : Mc) : Mc := { m with cnt := IntKind.u64.wrap (m.cnt + 1) }
theorem MBox.store_pc {w : World} {g : Nat} {m : Mc} (k : MBox w g m) : (Instr.storeAt 22 (.pointer (some ⟨g, 32, none⟩)) (.int .u64 2147483652)).run Tryz.prog w = .ok () (w.setRow g (mcC (pcM m))) :=
  MBox.store_h (m' := pcM m) k 22 0 (.int .u64 2147483652) size22 rfl rfl (by decide) rfl rfl rfl rfl
theorem LaidN.touch {W W' : World} {S : Nat → Prop} (h : LaidN W) (t : Touch W W' S) (hS : ¬ S 4) : LaidN W' :=
  ⟨Nat.le_trans h.1 t.size, by have e := t.block 4 (by have := h.1; omega) hS; have h2 := h.2; unfold World.cell? at h2 ⊢; simp only [e]; exact h2⟩
set_option maxRecDepth 100000 in
set_option maxHeartbeats 4000000 in
theorem step_w (z wk : Nat) (m : Mc) (D : List UInt8) (l : Int) (W : World) (K : MBox W z m) (Kw : W.heap[wk]? = some (.cells (wkG z 0 0 0 0 0 0 0 l) 75 (0, 0))) (hL : LaidN W) (hk : 12 ≤ wk) (hm : m.h.mode = 3) (hp : m.h.pc = 2147483648) (hd : DAt W m.dv D) (h1 : ldV D 2147483648 2 = 1299) (s1 : stE D.length 2147483648 2 = 0) (h2 : ldV D 2147483650 2 = 80) (s2 : stE D.length 2147483650 2 = 0) (h0 : m.h.x[0]? = some 0) (hpn : Tr.pendV m.h l = -1) : Calls Tryz.prog 24 #[.pointer (some ⟨wk, 0, none⟩)] W fun e W' => e = .returned (.tuple #[]) ∧ MBox W' z (pcM (xM m)) ∧ W'.heap[wk]? = some (.cells (wkG z 22 10 0 0 5 5244179 2147483652 l) 75 (0, 0)) ∧ Touch W W' (fun k => k = z ∨ k = wk) := by
  have C1 := Lib.hid (fun W' => hpn ▸ Tr.pend_any m.h l W')
  have HNE := Lib.hid (show wk ≠ z from fun e => by rw [e, K] at Kw; simp only [Option.some.injEq, Obj.cells.injEq] at Kw; exact absurd Kw.2.1 (by decide))
  have KS := Lib.hid (fun w (h : Below W.heap.size W w) => (And.intro (K.next h) ((h.block wk (Array.getElem?_eq_some_iff.1 Kw).1).trans Kw) : MBox w z m ∧ w.heap[wk]? = some (.cells (wkG z 0 0 0 0 0 0 0 l) 75 (0, 0))))
  have CF := Lib.hid (fun w (h : Below W.heap.size W w) => fetch_w z wk m D l w (KS.out w h).1 (KS.out w h).2 hm hp (hd.below h) h1 s1 h2 s2)
  have HL := Lib.hid (And.intro hL (show ¬ (4 : Nat) = wk by omega))
  have H0 := Lib.hid h0
  clear K Kw hL hk hm hp hd h1 s1 h2 s2 h0 hpn
  have X := Lib.hid (Below.refl W.heap.size W)
  go_enter Tryz.func24, Tryz.ntmps24
  go_upto_region 0 with (fail)
  refine dr (fun w => MBox w z m ∧ w.heap[wk]? = some (.cells (wkG z 0 0 0 0 0 0 0 l) 75 (0, 0))) fun wz hzz => ?_
  have X := Lib.hid (below_then X.out hzz)
  clear hzz
  have hS := KS.out _ X.out
  refine tk 0 hS ?_
  refine tk 1 hS ?_
  refine tk 2 hS ?_
  refine tk 3 hS ?_
  refine tl 4 hS (fun w hw => wk_ptr hw.2) ?_
  refine tk 5 hS ?_
  refine tk 6 hS ?_
  refine tl 7 hS (fun w hw => MBox.load_hart hw.1) ?_
  refine tk 8 hS ?_
  refine tk 9 hS ?_
  refine tk 10 hS ?_
  refine tl 11 hS (fun w hw => wk_l hw.2) ?_
  refine hc 12 (calls_told (C1.out _)) ?_
  rintro v' wb ⟨rfl, kk⟩
  have X := Lib.hid (below_then X.out kk)
  refine ⟨KS.out _ X.out, fun hS => ?_⟩
  clear kk
  simp only [puts]
  refine tk 13 hS ?_
  refine wpAnyH_done (by kernel_rfl) ?_ _
  clear hS
  go_upto_region 3 with (fail)
  have KM := Lib.hid (KS.out _ X.out).1
  have CF1 := Lib.hid (CF.out _ X.out)
  have HL1 := Lib.hid (HL.out.1.below X.out)
  clear CF KS C1
  go_upto_region 4 with (first | (go_at_call 40; (with_reducible refine CF1.out.mono ?_); rintro e wf ⟨rfl, kf, tf⟩; have KF := Lib.hid kf; have TF := Lib.hid tf; have CD := Lib.hid (decode_w z wk l wf (HL1.out.touch tf HL.out.2) kf); clear kf tf) | (go_at_call 41; (with_reducible refine CD.out.mono ?_); rintro e wg ⟨rfl, kg, tg⟩; have TG := Lib.hid (TF.out.trans tg); have CE := Lib.hid (doing_w z wk m l wg (KM.out.touch TG.out (fun h => HNE.out h.symm)) kg H0.out); have KG := Lib.hid kg; clear kg tg) | (go_at_call 42; (with_reducible refine CE.out.mono ?_); rintro e wh ⟨rfl, wx, kx, hx⟩; have HX := Lib.hid (And.intro kx hx); clear kx hx) | fail)
  have KH := Lib.hid (show wh.heap[wk]? = some (.cells (wkG z 22 10 0 0 5 5244179 2147483652 l) 75 (0, 0)) by rw [HX.out.2]; exact (setRow_other _ _ _ _ HNE.out).trans ((HX.out.1.block wk (Array.getElem?_eq_some_iff.1 KG.out).1).trans KG.out))
  have KX := Lib.hid (show MBox wh z (xM m) from ((KM.out.touch TG.out (fun h => HNE.out h.symm)).next HX.out.1).put HX.out.2)
  have TH := Lib.hid (show Touch W wh (fun k => k = z ∨ k = wk) by
    have t1 : Touch W wg (fun k => k = z ∨ k = wk) := (touch_of_below X.out _).trans (TG.out.mono fun _ _ h => .inr h)
    rw [HX.out.2]
    exact (t1.trans (touch_of_below HX.out.1 _)).setRow (.inl (.inl rfl)) _)
  clear TF TG KF CD CE KG HX CF1 HL1 KM
  refine dr (fun w => w.heap[wk]? = some (.cells (wkG z 22 10 0 0 5 5244179 2147483652 l) 75 (0, 0))) fun wz hzz => ?_
  have Z := Lib.hid hzz
  have KH2 := Lib.hid ((hzz.block wk (Array.getElem?_eq_some_iff.1 KH.out).1).trans KH.out)
  clear hzz
  have hS := KH2.out
  refine tk 0 hS ?_
  refine tk 1 hS ?_
  refine tk 2 hS ?_
  refine tk 3 hS ?_
  refine tl 4 hS (fun w hw => wk_ptr hw) ?_
  refine tk 5 hS ?_
  refine tk 6 hS ?_
  refine tk 7 hS ?_
  refine tl 8 hS (fun w hw => wk_np hw) ?_
  refine tk 9 hS ?_
  refine tk 10 hS ?_
  refine tk 11 hS ?_
  refine hs 12 (MBox.store_pc (KX.out.next Z.out)) fun wy hw => ?_
  have KY := Lib.hid (show wy.heap[wk]? = some (.cells (wkG z 22 10 0 0 5 5244179 2147483652 l) 75 (0, 0)) by rw [hw]; exact (setRow_other _ _ _ _ HNE.out).trans KH2.out)
  have HW := Lib.hid hw
  refine ⟨KY.out, fun hS => wpAnyH_done (by kernel_rfl) ?_ _⟩
  go_wp2_with fail
  refine bodyPost_end (results_none rfl _ _ _) rfl ⟨rfl, (KX.out.next Z.out).put HW.out, KY.out, ?_⟩
  rw [HW.out]
  exact (TH.out.trans (touch_of_below Z.out _)).setRow (.inl (.inl rfl)) _
set_option maxRecDepth 100000 in
set_option maxHeartbeats 4000000 in
theorem hstep_w (z : Nat) (m : Mc) (p : Pt) (D : List UInt8) (W : World) (K : MBox W z m) (hf : m.b.fn = p.F.length) (hL : LaidN W) (hm : m.h.mode = 3) (hp : m.h.pc = 2147483648) (hd : DAt W m.dv D) (h1 : ldV D 2147483648 2 = 1299) (s1 : stE D.length 2147483648 2 = 0) (h2 : ldV D 2147483650 2 = 80) (s2 : stE D.length 2147483650 2 = 0) (h0 : m.h.x[0]? = some 0) (hpn : ∀ l, Tr.pendV m.h l = -1) : Calls Tryz.prog 10 #[.pointer (some ⟨z, 0, none⟩)] W fun e W' => e = .returned (.tuple #[]) ∧ MBox W' z (cntM (pcM (xM m))) ∧ Touch W W' (fun k => k = z) := by
  have CL := Lib.hid (fun w => lines_m m p w hf)
  have HK := Lib.hid K
  have CS := Lib.hid (fun w (h : Below W.heap.size W w) wk l (kw : w.heap[wk]? = some (.cells (wkG z 0 0 0 0 0 0 0 l) 75 (0, 0))) (hk : 12 ≤ wk) => step_w z wk m D l w (K.next h) kw (hL.below h) hk hm hp (hd.below h) h1 s1 h2 s2 h0 (hpn l))
  have HL := Lib.hid hL
  clear K hf hL hm hp hd h1 s1 h2 s2 h0 hpn
  generalize linesV m p = l at CL
  have X := Lib.hid (Below.refl W.heap.size W)
  go_enter Tryz.func10, Tryz.ntmps10
  go_upto_region 2 with (first | (with_reducible refine wpList_load_by rfl rfl (MBox.load (HK.out.next X.out)) rfl ?_) | (go_at_call 23; (with_reducible refine (CL.out _).mono ?_); rintro e wb ⟨rfl, kk⟩; have X := Lib.hid (below_then X.out kk); clear kk) | fail)
  have hwk : W.heap.size ≤ wb.heap.size := X.out.size
  have X := Lib.hid (below_then X.out (below1 wb (.cells (wkG z 0 0 0 0 0 0 0 l) 75 (0, 0))))
  have kw : (wb.alloc (.cells (wkG z 0 0 0 0 0 0 0 l) 75 (0, 0))).heap[wb.heap.size]? = some (.cells (wkG z 0 0 0 0 0 0 0 l) 75 (0, 0)) := heap_alloc_last wb _
  generalize wb.heap.size = wk at kw hwk ⊢
  generalize hwc : wb.alloc (.cells (wkG z 0 0 0 0 0 0 0 l) 75 (0, 0)) = wc at X kw
  clear hwc
  have C3 := Lib.hid (CS.out wc X.out wk l kw (by have := HL.out.1; omega))
  have HWK := Lib.hid hwk
  clear hwk kw
  go_upto_region 3 with (first | (go_at_call 24; (with_reducible refine C3.out.mono ?_); rintro e wd ⟨rfl, hz, hk, ht⟩; have HZ := Lib.hid hz; have KD := Lib.hid hk; have TD := Lib.hid ht; clear hz hk ht) | fail)
  have m_w : wd.cell? ⟨wk, 0, none⟩ = some (.pointer (some ⟨z, 0, none⟩)) := cell_of_row _ _ 0 _ 75 (0, 0) KD.out
  go_wp2_with (first | (with_reducible refine wpList_load_by rfl rfl (MBox.load_cnt HZ.out) rfl ?_) | (with_reducible refine wpList_store_by rfl rfl (MBox.store_cnt HZ.out _) rfl rfl ?_) | fail)
  refine bodyPost_end (results_none rfl _ _ _) rfl ⟨rfl, HZ.out.put rfl, ?_⟩
  exact (Touch.trans' (touch_of_below X.out (fun k => k = z)) TD.out (fun x hx h => h.elim id fun h => by have := HWK.out; omega)).setRow (.inl rfl) _

end Go.Proofs.YtjohcpokmdofkaaGreatDoor
namespace Go.Proofs.YtjohcpokmdofkaaGreatDoor
open Go.RowKit Go.Deep Go.Joins
/-- The word, as bytes. -/
abbrev wordS : ByteArray := ⟨#[19, 5, 80, 0]⟩
noncomputable def awD : List UInt8 := spl (List.replicate (1 * 256) 0) 0 wordS
theorem awD_length : awD.length = 256 := by decide +kernel
theorem awD_lo : ldV awD 2147483648 2 = 1299 := by decide +kernel
theorem awD_hi : ldV awD 2147483650 2 = 80 := by decide +kernel
theorem awD_slo : stE awD.length 2147483648 2 = 0 := by rw [awD_length]; decide +kernel
theorem awD_shi : stE awD.length 2147483650 2 = 0 := by rw [awD_length]; decide +kernel
structure AwD (D : List UInt8) : Prop where
  lo : ldV D 2147483648 2 = 1299
  hi : ldV D 2147483650 2 = 80
  slo : stE D.length 2147483648 2 = 0
  shi : stE D.length 2147483650 2 = 0
theorem rnew_one (W : World) : Calls Tryz.prog 18 #[.int .i64 1, .string ⟨#[19, 5, 80, 0]⟩] W fun e W' => ∃ D, AwD D ∧ NewMem W D [0] 0 0 e W' := (rnew_any 1 wordS W (by decide) (by decide) (by decide)).mono fun _ _ h => ⟨awD, ⟨awD_lo, awD_hi, awD_slo, awD_shi⟩, h⟩
def awH : Hart := { x := List.replicate 32 0, hx := List.length_replicate, pc := 2147483648, mode := 3, c := ⟨0, 0, 0, 0, 0, 0, 0, 0, 0, 0, 0, 0, 0, 0, 0, 0⟩, held := false, rat := 0 }
def awM (dv mv : Value) : Mc := { h := awH, b := bdZ, dv := dv, mv := mv, E := 0, cnt := 0, nxt := 0, ov := .slice none 0 0 }
theorem built27 : Tryz.prog.built 27 [(1, .int .u64 2147483648), (2, .int .i64 3)] = some (hartC awH) := by kernel_rfl
theorem built42 (dv mv : Value) : Tryz.prog.built 42 [(2, .agg #[dv, mv, .int .u64 0]), (0, hartV awH)] = some (mcC (awM dv mv)) := by kernel_rfl
theorem exec_build2 {P : Program} {ρ : Operand → Value} {o : Oper} {t : TypeId} {i j : Nat} {x y : Operand} {vx vy : Value} {cells : Array Value} {w : World} (ho : o.op = .build t #[(i, x), (j, y)]) (hx : ρ x = vx) (hy : ρ y = vy) (h : P.built t [(i, vx), (j, vy)] = some cells) : (execOp ρ o).run P w = .ok (.value (.agg cells)) w := by
  simp [execOp, ho, hx, hy, run_build w t #[(i, vx), (j, vy)] cells h, Result.andThen]
theorem pend_aw (l : Int) : Tr.pendV awH l = -1 := by
  unfold Tr.pendV
  rw [show Tr.upV awH = false by decide +kernel, show Tr.midV awH = false by decide +kernel]
  simp
set_option maxRecDepth 100000 in
set_option maxHeartbeats 1000000 in
theorem awake_w (W : World) (hL : LaidN W) : Calls Tryz.prog 7 #[] W fun e W' => e = .returned (.bool true) ∧ Below W.heap.size W W' := by
  have HL := Lib.hid hL
  clear hL
  go_enter Tryz.func7, Tryz.ntmps7
  have X := Lib.hid (Mem.start W)
  go_upto_region 2 with (first | (go_at_call 18; (with_reducible refine (rnew_one W).mono ?_); rintro e wb ⟨D, hAD, dv, mv, rfl, hD, hM, kk⟩; have HAD := Lib.hid hAD; obtain ⟨p1, c1, e1⟩ := owns_shape hD; obtain ⟨p2, c2, e2⟩ := owns_shape hM; subst e1; subst e2; have HD := Lib.hid hD; have HM := Lib.hid hM; have X := Lib.hid (X.out.next kk); clear kk hD hM) | fail)
  have X := Lib.hid (X.out.new (ramC (.slice p1 D.length c1) (.slice p2 1 c2) 0) 39 (by decide))
  have HA := Lib.hid (show OwnD (wb.alloc (.cells (ramC (.slice p1 D.length c1) (.slice p2 1 c2) 0) 39)) W.heap.size (.slice p1 D.length c1) D from HD.out.below (below1 wb _))
  have H1 := Lib.hid (Mc1.mk (m := awM (.slice p1 D.length c1) (.slice p2 1 c2)) (one_t HD.out) (one_t HM.out) rfl)
  generalize hwc : wb.alloc (.cells (ramC (.slice p1 D.length c1) (.slice p2 1 c2) 0) 39) = wc at X HA
  have e : wb.alloc (.cells #[.slice p1 D.length c1, .slice p2 1 c2, .int .u64 0] 39) = wc := hwc
  try rw [e]
  clear e hwc
  generalize wb.heap.size = gr at X ⊢
  go_upto_region 3 with (first | (with_reducible refine wpList_load_by rfl rfl (ram_load X.out.g0) rfl ?_) | ((with_reducible show wpList _ _ _ (⟨some 9, Op.build 27 _, _, _, _, _⟩ :: _) _ _); refine wpList_exec (by kernel_rfl) (exec_build2 rfl rfl rfl built27) ?_; simp only [Act.put, List.setIfInBounds_toArray, List.set_cons_zero, List.set_cons_succ]) | ((with_reducible show wpList _ _ _ (⟨some 10, Op.build 42 _, _, _, _, _⟩ :: _) _ _); refine wpList_exec (by kernel_rfl) (exec_build2 rfl rfl rfl (built42 _ _)) ?_; simp only [Act.put, List.setIfInBounds_toArray, List.set_cons_zero, List.set_cons_succ]) | (with_reducible refine wpList_store_by rfl rfl (MBox.store (awM (.slice p1 D.length c1) (.slice p2 1 c2)) H1.out (X.out.new Tryz.zeroCells42 42 (by decide)).g0 (by kernel_rfl)) rfl rfl ?_) | fail)
  have HA := Lib.hid (HA.out.below (below1 wc (.cells Tryz.zeroCells42 42)))
  have HA2 := Lib.hid (OwnD.at (show OwnD ((wc.alloc (.cells Tryz.zeroCells42 42)).setRow wc.heap.size (mcC (awM (.slice p1 D.length c1) (.slice p2 1 c2)))) W.heap.size (.slice p1 D.length c1) D from owns_over HA.out (X.out.new Tryz.zeroCells42 42 (by decide)).g0 (by decide) (mcC (awM (.slice p1 D.length c1) (.slice p2 1 c2)))))
  have X := Lib.hid ((X.out.new Tryz.zeroCells42 42 (by decide)).p0 (cs' := mcC (awM (.slice p1 D.length c1) (.slice p2 1 c2))) rfl)
  generalize wc.heap.size = z at X HA2 ⊢
  generalize (wc.alloc (Obj.cells Tryz.zeroCells42 42)).setRow z (mcC (awM (.slice p1 D.length c1) (.slice p2 1 c2))) = we at X HA2 ⊢
  have K : MBox we z (awM (.slice p1 D.length c1) (.slice p2 1 c2)) := X.out.m0
  have C1 := Lib.hid (hstep_w z (awM (.slice p1 D.length c1) (.slice p2 1 c2)) ⟨[], [], [], []⟩ D we K rfl (HL.out.below X.out.below) rfl rfl HA2.out HAD.out.lo HAD.out.slo HAD.out.hi HAD.out.shi rfl pend_aw)
  have BZ := Lib.hid (X.out.big _ (List.mem_cons_self ..))
  have BX := Lib.hid X.out.below
  clear K X HA HA2 HD HM HAD H1
  go_upto_region 4 with (first | (go_at_call 10; (with_reducible refine C1.out.mono ?_); rintro e wf ⟨rfl, kf, tf⟩; have KF := Lib.hid kf; have TF := Lib.hid tf; clear kf tf) | fail)
  have m_x : wf.cell? ⟨z, 10, none⟩ = some (.int .u64 5) := (cell_of_row wf z 10 _ 42 (0, 0) KF.out).trans rfl
  have m_pc : wf.cell? ⟨z, 32, none⟩ = some (.int .u64 2147483652) := (cell_of_row wf z 32 _ 42 (0, 0) KF.out).trans rfl
  have m_cnt : wf.cell? ⟨z, 76, none⟩ = some (.int .u64 1) := (cell_of_row wf z 76 _ 42 (0, 0) KF.out).trans rfl
  have B := Lib.hid (Touch.below BX.out TF.out (fun x hx => by subst hx; exact BZ.out) BX.out.size)
  go_wp2_with fail
  go_ret
  exact ⟨rfl, B.out⟩

end Go.Proofs.YtjohcpokmdofkaaGreatDoor
