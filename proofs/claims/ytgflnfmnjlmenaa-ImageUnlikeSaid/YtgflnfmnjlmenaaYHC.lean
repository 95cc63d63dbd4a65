/- A machine's bytes. The memory of Act; what an effect does. The program is awake. The machine that stands at its memory's beginning. -/
import Derived.Test.YtgflnfmnjlmenaaYZT
import Derived.Test.YtgflnfmnjlmenaaYNB
import Derived.Test.YtgflnfmnjlmenaaYNC
namespace Go.Proofs.Ytgflnfmnjlmenaa
open Go.RowKit Go.Deep Go.Joins
set_option maxRecDepth 100000
def datB (p : Pt) : ByteArray := ⟨p.D.toArray⟩
/-- May the machine be written? -/
def okB (m : Mc) (p : Pt) : Bool := decide (chkM m p = 0) && pkOk (headF m p) && pkOk [packB (headF m p), datB p]
def bytesB (m : Mc) (p : Pt) : ByteArray := packB [packB (headF m p), datB p]
def BytesR (m : Mc) (p : Pt) (W : World) (e : Ending) (W' : World) : Prop :=
  (if okB m p = true then e = .returned (.tuple #[.string (bytesB m p), .int .i64 0]) else ∃ k : Int, k ≠ 0 ∧ e = .returned (.tuple #[.string ⟨#[]⟩, .int .i64 k])) ∧ Below W.heap.size W W'
set_option maxHeartbeats 1000000 in
theorem bytes_no (m : Mc) (p : Pt) (W : World) (K : MR W m p) (N : NOk m) (h : ¬ (chkM m p = 0 ∧ pkOk (headF m p) = true)) : Calls Try.prog 6 #[mcV m] W (BytesR m p W) := by
  have X := Lib.hid (MBox.new W m)
  have B := Lib.hid (below1 W (mcO m))
  have C := Lib.hid (head_any m p _ (K.next (below1 W (mcO m))) N)
  obtain ⟨k, hk, hv⟩ : ∃ k : Int, k ≠ 0 ∧ headV m p = .tuple #[.string ⟨#[]⟩, .int .i64 k] := by
    unfold headV
    by_cases h1 : chkM m p = 0
    · rw [if_pos h1, if_neg (fun h2 => h ⟨h1, h2⟩)]
      exact ⟨2, by decide, rfl⟩
    · rw [if_neg h1]
      exact ⟨_, h1, rfl⟩
  rw [hv] at C
  have HO := Lib.hid (show okB m p = false from by
    unfold okB
    by_cases h1 : chkM m p = 0
    · cases h2 : pkOk (headF m p) with
      | true => exact absurd ⟨h1, h2⟩ h
      | false => simp
    · simp [h1])
  have HK := Lib.hid hk
  have hb : (k != 0) = true := by rw [bne_iff_ne]; exact hk
  clear K h hv N hk
  go_enter Try.func6, Try.ntmps6
  go_upto_region 1 with fail
  generalize W.alloc (mcO m) = wa at X B C ⊢
  go_wp2_with (first | (with_reducible refine wpList_load_by rfl rfl (MBox.load X.out) rfl ?_) | (go_at_call 10; (with_reducible refine C.out.mono ?_); rintro e w1 ⟨rfl, k1⟩; have B1 := Lib.hid (below_then B.out k1); clear k1) | fail)
  go_ret2
  refine ⟨?_, B1.out⟩
  rw [HO.out]
  exact ⟨k, HK.out, rfl⟩
set_option maxHeartbeats 1000000 in
theorem bytes_yes (m : Mc) (p : Pt) (W : World) (K : MR W m p) (N : NOk m) (h1 : chkM m p = 0) (h2 : pkOk (headF m p) = true) : Calls Try.prog 6 #[mcV m] W (BytesR m p W) := by
  have X := Lib.hid (MBox.new W m)
  have B := Lib.hid (below1 W (mcO m))
  have C := Lib.hid (head_any m p _ (K.next (below1 W (mcO m))) N)
  have hv : headV m p = .tuple #[.string (packB (headF m p)), .int .i64 0] := by unfold headV; rw [if_pos h1, if_pos h2]
  rw [hv] at C
  obtain ⟨q, c, ed⟩ := Reads.is K.d
  have HD := Lib.hid (fun w' (hb : Below W.heap.size W w') => show DAt w' (.slice q p.D.length c) p.D from by rw [← ed]; exact (K.next hb).d)
  have HO := Lib.hid (show okB m p = pkOk [packB (headF m p), datB p] from by unfold okB; rw [h1, h2]; rfl)
  have HV := Lib.hid (show bytesB m p = packB [packB (headF m p), datB p] from rfl)
  have LD := Lib.hid (fun w' (hb : MBox w' W.heap.size m) => show (Instr.loadAt 36 (.pointer (some ⟨W.heap.size, 73, none⟩))).run Try.prog w' = .ok (.slice q p.D.length c) w' from by rw [← ed]; exact MBox.load_dv hb)
  clear K h1 h2 hv N ed
  generalize packB (headF m p) = hd at C HO HV
  go_enter Try.func6, Try.ntmps6
  go_upto_region 1 with fail
  generalize W.alloc (mcO m) = wa at X B C ⊢
  go_upto_region 4 with (first | (with_reducible refine wpList_load_by rfl rfl (MBox.load X.out) rfl ?_) | (go_at_call 10; (with_reducible refine C.out.mono ?_); rintro e w1 ⟨rfl, k1⟩; have B1 := Lib.hid (below_then B.out k1); have X1 := Lib.hid (X.out.next k1); clear k1) | fail)
  have hcv := string_of (HD.out w1 B1.out)
  have P := Lib.hid (pack_any (.slice (some ⟨w1.heap.size, 0, none⟩) 2 2) [hd, datB p] (w1.alloc (.cells #[.string hd, .string (datB p)] 9)) (reads_of_owns (World.ownsRow_lit (base := 0) (e := 9) (size := 1) w1 #[.string hd, .string (datB p)] 2 (Nat.zero_le _) (by unfold maxLen; omega) rfl)) (by simp))
  have B2 := Lib.hid (below_then B1.out (below1 w1 (.cells #[.string hd, .string (datB p)] 9)))
  unfold PackR at P
  change (convert 36 9 (.slice q p.D.length c)).run Try.prog w1 = .ok (.string (datB p)) w1 at hcv
  generalize datB p = ds at *
  cases hk : pkOk [hd, ds] with
  | true =>
    rw [hk] at P
    have HK := Lib.hid hk
    clear hk
    go_wp2_with (first | (with_reducible refine wpList_load_by rfl rfl (LD.out _ X1.out) rfl ?_) | (go_at_call 11; (with_reducible refine P.out.mono ?_); rintro e w10 ⟨rfl, k10⟩) | fail)
    go_ret2
    refine ⟨?_, below_then B2.out k10⟩
    rw [HO.out, HK.out, HV.out]
    rfl
  | false =>
    rw [hk] at P
    have HK := Lib.hid hk
    clear hk
    go_wp2_with (first | (with_reducible refine wpList_load_by rfl rfl (LD.out _ X1.out) rfl ?_) | (go_at_call 11; (with_reducible refine P.out.mono ?_); rintro e w10 ⟨rfl, k10⟩) | fail)
    go_ret2
    refine ⟨?_, below_then B2.out k10⟩
    rw [HO.out, HK.out]
    exact ⟨2, by decide, rfl⟩
theorem bytes_m (m : Mc) (p : Pt) (W : World) (K : MR W m p) (N : NOk m) : Calls Try.prog 6 #[mcV m] W (BytesR m p W) := by
  by_cases h : chkM m p = 0 ∧ pkOk (headF m p) = true
  · exact bytes_yes m p W K N h.1 h.2
  · exact bytes_no m p W K N h
end Go.Proofs.Ytgflnfmnjlmenaa
namespace Go.Proofs.Ytgflnfmnjlmenaa
open Go.RowKit Go.Deep Go.Joins
abbrev ramC (dv mv : Value) (E : Int) : Array Value := #[dv, mv, .int .u64 E]
abbrev ramZC : Array Value := #[.slice none 0 0, .slice none 0 0, .int .u64 0]
abbrev ramZO : Obj := .cells ramZC 39
theorem ram_load {w : World} {g : Nat} {dv mv : Value} {E : Int} (h : w.heap[g]? = some (.cells (ramC dv mv E) 39 (0, 0))) : (Instr.loadAt 39 (.pointer (some ⟨g, 0, none⟩))).run Try.prog w = .ok (.agg (ramC dv mv E)) w := by
  simp only [Instr.loadAt, Instr.sureAddr, Sem.run_bind, Sem.run_pure, Result.andThen]
  exact run_loadVar_row w g 39 39 _ (0, 0) _ h Try.underlying39 rfl (by kernel_rfl)
theorem Mem.newR {W w : World} {l : List (Nat × Array Value × Nat)} {r : List (Nat × Value × Nat × List Value)} (h : Mem W w l r) : Mem W (w.alloc ramZO) ((w.heap.size, ramZC, 39) :: l) r := h.new _ 39 (by decide)
end Go.Proofs.Ytgflnfmnjlmenaa
namespace Go.Proofs.Ytgflnfmnjlmenaa
open Go.RowKit Go.Deep Go.Joins

def awH : Hart := { x := List.replicate 32 0, hx := List.length_replicate, pc := 2147483648, mode := 3, c := ⟨0, 0, 0, 0, 0, 0, 0, 0, 0, 0, 0, 0, 0, 0, 0, 0⟩, held := false, rat := 0 }
theorem built27n : Try.prog.built 27 [(1, .int .u64 2147483648), (2, .int .i64 3)] = some (hartC awH) := by kernel_rfl
theorem aw_ram {w : World} {g : Nat} {dv mv : Value} (h : w.heap[g]? = some (.cells #[dv, mv, .int .u64 0] 39 (0, 0))) : (Instr.loadAt 39 (.pointer (some ⟨g, 0, none⟩))).run Try.prog w = .ok (.agg #[dv, mv, .int .u64 0]) w := by
  simp only [Instr.loadAt, Instr.sureAddr, Sem.run_bind, Sem.run_pure, Result.andThen]
  exact run_loadVar_row w g 39 39 _ (0, 0) _ h Try.underlying39 rfl (by kernel_rfl)
end Go.Proofs.Ytgflnfmnjlmenaa
namespace Go.Proofs.Ytgflnfmnjlmenaa
open Go.RowKit Go.Deep Go.Joins
noncomputable abbrev mcZO : Obj := .cells zc42 42
theorem Mem.newM {W w : World} {l : List (Nat × Array Value × Nat)} {r : List (Nat × Value × Nat × List Value)} (h : Mem W w l r) : Mem W (w.alloc mcZO) ((w.heap.size, zc42, 42) :: l) r := h.new _ 42 (by decide)
theorem Mem.m0 {W w : World} {k : Nat} {m : Mc} {l : List (Nat × Array Value × Nat)} {r : List (Nat × Value × Nat × List Value)} (h : Mem W w ((k, mcC m, 42) :: l) r) : MBox w k m := h.g0
end Go.Proofs.Ytgflnfmnjlmenaa
