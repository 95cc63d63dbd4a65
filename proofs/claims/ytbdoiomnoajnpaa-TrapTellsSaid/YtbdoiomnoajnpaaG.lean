/- The ways back of the program. -/
import Derived.Test.YtbdoiomnoajnpaaF
namespace Go.Proofs.Ytbdoiomnoajnpaa
open Go.RowKit Go.Deep Go.Joins
theorem and_le_u64 (x : Int) (m : Nat) (hm : m < 18446744073709551616) : bits .and .u64 x m ≤ m := by
  show IntKind.u64.wrap (((BitVec.ofInt 64 x &&& BitVec.ofInt 64 (m : Int)).toNat : Nat) : Int) ≤ m
  have h : (BitVec.ofInt 64 x &&& BitVec.ofInt 64 (m : Int)).toNat ≤ m := by
    rw [BitVec.toNat_and, BitVec.ofInt_natCast, BitVec.toNat_ofNat, Nat.mod_eq_of_lt (by omega)]
    exact Nat.and_le_right
  rw [IntKind.wrap_u64]
  omega
theorem toMode (x : Int) : ∃ q : Int, bits .and .u64 x 6144 / 2048 = q ∧ 0 ≤ q ∧ q ≤ 3 := by
  refine ⟨_, rfl, ?_, ?_⟩
  · have := bits_lo_u64 .and x 6144
    omega
  · have h : bits .and .u64 x 6144 ≤ 6144 := and_le_u64 x 6144 (by omega)
    omega
def mppV (x : Int) : Int := bits .and .u64 x 6144 / 2048
def mretS (s : Int) (q : Int) : Int := if (q != 3) = true then bits .andNot .u64 (bits .andNot .u64 (bits .or .u64 (wV s 8 (nzV s 128)) 128) 6144) 131072 else bits .andNot .u64 (bits .or .u64 (wV s 8 (nzV s 128)) 128) 6144
def sretS (s : Int) : Int := bits .andNot .u64 (bits .or .u64 (wV s 2 (nzV s 32)) 32) 131328
def mretF (h : Hart) : Hart := (⟨h.x, h.hx, h.c.s7, mppV h.c.s0, ⟨mretS h.c.s0 (mppV h.c.s0), h.c.s1, h.c.s2, h.c.s3, h.c.s4, h.c.s5, h.c.s6, h.c.s7, h.c.s8, h.c.s9, h.c.s10, h.c.s11, h.c.s12, h.c.s13, h.c.s14, h.c.s15⟩, h.held, h.rat⟩ : Hart)
def sretF (h : Hart) : Hart := (⟨h.x, h.hx, h.c.s12, if nzV h.c.s0 256 = true then 1 else 0, ⟨sretS h.c.s0, h.c.s1, h.c.s2, h.c.s3, h.c.s4, h.c.s5, h.c.s6, h.c.s7, h.c.s8, h.c.s9, h.c.s10, h.c.s11, h.c.s12, h.c.s13, h.c.s14, h.c.s15⟩, h.held, h.rat⟩ : Hart)
set_option maxHeartbeats 1000000 in
theorem mret_no (h : Hart) (hm : (h.mode != 3) = true) (W : World) : Calls Try.prog 12 #[hartV h] W fun e W' => e = .returned (.tuple #[hartV h, .bool false]) ∧ Below W.heap.size W W' := by
  obtain ⟨x, hx, pc, mode, ⟨s0, s1, s2, s3, s4, s5, s6, s7, s8, s9, s10, s11, s12, s13, s14, s15⟩, held, rat⟩ := h
  go_enter Try.func12, Try.ntmps12
  go_upto_region 1 with (fail)
  have hst : (W.alloc (hartO (⟨x, hx, pc, mode, ⟨s0, s1, s2, s3, s4, s5, s6, s7, s8, s9, s10, s11, s12, s13, s14, s15⟩, held, rat⟩ : Hart))).alloc zeroO = St 0 W (⟨x, hx, pc, mode, ⟨s0, s1, s2, s3, s4, s5, s6, s7, s8, s9, s10, s11, s12, s13, s14, s15⟩, held, rat⟩ : Hart) zeroC := rfl
  rw [hst]
  clear hst
  go_wp2_with (first | (with_reducible refine wpList_load_by rfl rfl St.load_mode rfl ?_) | (with_reducible refine wpList_load_by rfl rfl (St.load _ _ _ _) rfl ?_) | (with_reducible refine wpList_store_by rfl rfl (St.store _ _ _ _) rfl rfl ?_) | fail)
  exact bodyPost_ret (v := .tuple #[hartV ((⟨x, hx, pc, mode, ⟨s0, s1, s2, s3, s4, s5, s6, s7, s8, s9, s10, s11, s12, s13, s14, s15⟩, held, rat⟩ : Hart)), .bool false]) (results_two Try.results12 _ _ (W.heap.size + 1) _ _ rfl (St.res _ W _ _) rfl) rfl ⟨rfl, St.below _ W _ _⟩
set_option maxHeartbeats 1000000 in
theorem mret_true (h : Hart) (hm : (h.mode != 3) = false) (hq : (mppV h.c.s0 != 3) = true) (W : World) : Calls Try.prog 12 #[hartV h] W fun e W' => e = .returned (.tuple #[hartV (mretF h), .bool true]) ∧ Below W.heap.size W W' := by
  obtain ⟨x, hx, pc, mode, ⟨s0, s1, s2, s3, s4, s5, s6, s7, s8, s9, s10, s11, s12, s13, s14, s15⟩, held, rat⟩ := h
  obtain ⟨q, he, h0, h3⟩ := toMode s0
  have HQ : RowKit.Hid (mppV s0 = q) := Lib.hid he
  have hw : IntKind.i64.wrap q = q := IntWalk.i64_in _ (by omega)
  have hq2 : (q != 3) = true := by rw [← hq]; exact congrArg (fun z => z != 3) he.symm
  clear hq
  have HQ2 := Lib.hid hq2
  go_enter Try.func12, Try.ntmps12
  go_upto_region 1 with (fail)
  have hst : (W.alloc (hartO (⟨x, hx, pc, mode, ⟨s0, s1, s2, s3, s4, s5, s6, s7, s8, s9, s10, s11, s12, s13, s14, s15⟩, held, rat⟩ : Hart))).alloc zeroO = St 0 W (⟨x, hx, pc, mode, ⟨s0, s1, s2, s3, s4, s5, s6, s7, s8, s9, s10, s11, s12, s13, s14, s15⟩, held, rat⟩ : Hart) zeroC := rfl
  rw [hst]
  clear hst
  go_wp2_with (first | (with_reducible refine wpList_load_by rfl rfl St.load_mode rfl ?_) | (with_reducible refine wpList_load_by rfl rfl St.load_s0 rfl ?_) | (with_reducible refine wpList_load_by rfl rfl St.load_s7 rfl ?_) | (with_reducible refine wpList_store_by rfl rfl St.store_mode rfl rfl ?_) | (with_reducible refine wpList_store_by rfl rfl St.store_s0 rfl rfl ?_) | (with_reducible refine wpList_store_by rfl rfl St.store_pc rfl rfl ?_) | (with_reducible refine wpList_load_by rfl rfl (St.load _ _ _ _) rfl ?_) | (with_reducible refine wpList_store_by rfl rfl (St.store _ _ _ _) rfl rfl ?_) | (go_at_call 29; (with_reducible refine (with_any _ _ _ _).mono ?_); rintro e w' ⟨rfl, rfl⟩) | fail)
  have hE : mretF (⟨x, hx, pc, mode, ⟨s0, s1, s2, s3, s4, s5, s6, s7, s8, s9, s10, s11, s12, s13, s14, s15⟩, held, rat⟩ : Hart) = (⟨x, hx, s7, q, ⟨mretS s0 q, s1, s2, s3, s4, s5, s6, s7, s8, s9, s10, s11, s12, s13, s14, s15⟩, held, rat⟩ : Hart) := by
    unfold mretF
    rw [show mppV (⟨x, hx, pc, mode, ⟨s0, s1, s2, s3, s4, s5, s6, s7, s8, s9, s10, s11, s12, s13, s14, s15⟩, held, rat⟩ : Hart).c.s0 = q from HQ.out]
  have hS : mretS s0 q = bits .andNot .u64 (bits .andNot .u64 (bits .or .u64 (wV s0 8 (nzV s0 128)) 128) 6144) 131072 := if_pos HQ2.out
  rw [hE, hS]
  exact bodyPost_ret (v := .tuple #[hartV ((⟨x, hx, s7, q, ⟨bits .andNot .u64 (bits .andNot .u64 (bits .or .u64 (wV s0 8 (nzV s0 128)) 128) 6144) 131072, s1, s2, s3, s4, s5, s6, s7, s8, s9, s10, s11, s12, s13, s14, s15⟩, held, rat⟩ : Hart)), .bool true]) (results_two Try.results12 _ _ (W.heap.size + 1) _ _ rfl (St.res _ W _ _) rfl) rfl ⟨rfl, St.below _ W _ _⟩
set_option maxHeartbeats 1000000 in
theorem mret_false (h : Hart) (hm : (h.mode != 3) = false) (hq : (mppV h.c.s0 != 3) = false) (W : World) : Calls Try.prog 12 #[hartV h] W fun e W' => e = .returned (.tuple #[hartV (mretF h), .bool true]) ∧ Below W.heap.size W W' := by
  obtain ⟨x, hx, pc, mode, ⟨s0, s1, s2, s3, s4, s5, s6, s7, s8, s9, s10, s11, s12, s13, s14, s15⟩, held, rat⟩ := h
  obtain ⟨q, he, h0, h3⟩ := toMode s0
  have HQ : RowKit.Hid (mppV s0 = q) := Lib.hid he
  have hw : IntKind.i64.wrap q = q := IntWalk.i64_in _ (by omega)
  have hq2 : (q != 3) = false := by rw [← hq]; exact congrArg (fun z => z != 3) he.symm
  clear hq
  have HQ2 := Lib.hid hq2
  go_enter Try.func12, Try.ntmps12
  go_upto_region 1 with (fail)
  have hst : (W.alloc (hartO (⟨x, hx, pc, mode, ⟨s0, s1, s2, s3, s4, s5, s6, s7, s8, s9, s10, s11, s12, s13, s14, s15⟩, held, rat⟩ : Hart))).alloc zeroO = St 0 W (⟨x, hx, pc, mode, ⟨s0, s1, s2, s3, s4, s5, s6, s7, s8, s9, s10, s11, s12, s13, s14, s15⟩, held, rat⟩ : Hart) zeroC := rfl
  rw [hst]
  clear hst
  go_wp2_with (first | (with_reducible refine wpList_load_by rfl rfl St.load_mode rfl ?_) | (with_reducible refine wpList_load_by rfl rfl St.load_s0 rfl ?_) | (with_reducible refine wpList_load_by rfl rfl St.load_s7 rfl ?_) | (with_reducible refine wpList_store_by rfl rfl St.store_mode rfl rfl ?_) | (with_reducible refine wpList_store_by rfl rfl St.store_s0 rfl rfl ?_) | (with_reducible refine wpList_store_by rfl rfl St.store_pc rfl rfl ?_) | (with_reducible refine wpList_load_by rfl rfl (St.load _ _ _ _) rfl ?_) | (with_reducible refine wpList_store_by rfl rfl (St.store _ _ _ _) rfl rfl ?_) | (go_at_call 29; (with_reducible refine (with_any _ _ _ _).mono ?_); rintro e w' ⟨rfl, rfl⟩) | fail)
  have hE : mretF (⟨x, hx, pc, mode, ⟨s0, s1, s2, s3, s4, s5, s6, s7, s8, s9, s10, s11, s12, s13, s14, s15⟩, held, rat⟩ : Hart) = (⟨x, hx, s7, q, ⟨mretS s0 q, s1, s2, s3, s4, s5, s6, s7, s8, s9, s10, s11, s12, s13, s14, s15⟩, held, rat⟩ : Hart) := by
    unfold mretF
    rw [show mppV (⟨x, hx, pc, mode, ⟨s0, s1, s2, s3, s4, s5, s6, s7, s8, s9, s10, s11, s12, s13, s14, s15⟩, held, rat⟩ : Hart).c.s0 = q from HQ.out]
  have hS : mretS s0 q = bits .andNot .u64 (bits .or .u64 (wV s0 8 (nzV s0 128)) 128) 6144 := if_neg (by rw [HQ2.out]; decide)
  rw [hE, hS]
  exact bodyPost_ret (v := .tuple #[hartV ((⟨x, hx, s7, q, ⟨bits .andNot .u64 (bits .or .u64 (wV s0 8 (nzV s0 128)) 128) 6144, s1, s2, s3, s4, s5, s6, s7, s8, s9, s10, s11, s12, s13, s14, s15⟩, held, rat⟩ : Hart)), .bool true]) (results_two Try.results12 _ _ (W.heap.size + 1) _ _ rfl (St.res _ W _ _) rfl) rfl ⟨rfl, St.below _ W _ _⟩
set_option maxHeartbeats 1000000 in
theorem sret_no (h : Hart) (hm : h.mode < 1) (W : World) : Calls Try.prog 14 #[hartV h] W fun e W' => e = .returned (.tuple #[hartV h, .bool false]) ∧ Below W.heap.size W W' := by
  obtain ⟨x, hx, pc, mode, ⟨s0, s1, s2, s3, s4, s5, s6, s7, s8, s9, s10, s11, s12, s13, s14, s15⟩, held, rat⟩ := h
  go_enter Try.func14, Try.ntmps14
  go_upto_region 1 with (fail)
  have hst : (W.alloc (hartO (⟨x, hx, pc, mode, ⟨s0, s1, s2, s3, s4, s5, s6, s7, s8, s9, s10, s11, s12, s13, s14, s15⟩, held, rat⟩ : Hart))).alloc zeroO = St 0 W (⟨x, hx, pc, mode, ⟨s0, s1, s2, s3, s4, s5, s6, s7, s8, s9, s10, s11, s12, s13, s14, s15⟩, held, rat⟩ : Hart) zeroC := rfl
  rw [hst]
  clear hst
  go_wp2_with (first | (with_reducible refine wpList_load_by rfl rfl St.load_mode rfl ?_) | (with_reducible refine wpList_load_by rfl rfl (St.load _ _ _ _) rfl ?_) | (with_reducible refine wpList_store_by rfl rfl (St.store _ _ _ _) rfl rfl ?_) | fail)
  exact bodyPost_ret (v := .tuple #[hartV ((⟨x, hx, pc, mode, ⟨s0, s1, s2, s3, s4, s5, s6, s7, s8, s9, s10, s11, s12, s13, s14, s15⟩, held, rat⟩ : Hart)), .bool false]) (results_two Try.results14 _ _ (W.heap.size + 1) _ _ rfl (St.res _ W _ _) rfl) rfl ⟨rfl, St.below _ W _ _⟩
set_option maxHeartbeats 1000000 in
theorem sret_true (h : Hart) (hm : ¬ h.mode < 1) (hq : nzV h.c.s0 256 = true) (W : World) : Calls Try.prog 14 #[hartV h] W fun e W' => e = .returned (.tuple #[hartV (sretF h), .bool true]) ∧ Below W.heap.size W W' := by
  obtain ⟨x, hx, pc, mode, ⟨s0, s1, s2, s3, s4, s5, s6, s7, s8, s9, s10, s11, s12, s13, s14, s15⟩, held, rat⟩ := h
  have hq2 : (bits .and .u64 s0 256 != 0) = true := hq
  have HQ : RowKit.Hid (nzV s0 256 = true) := Lib.hid hq
  clear hq
  go_enter Try.func14, Try.ntmps14
  go_upto_region 1 with (fail)
  have hst : (W.alloc (hartO (⟨x, hx, pc, mode, ⟨s0, s1, s2, s3, s4, s5, s6, s7, s8, s9, s10, s11, s12, s13, s14, s15⟩, held, rat⟩ : Hart))).alloc zeroO = St 0 W (⟨x, hx, pc, mode, ⟨s0, s1, s2, s3, s4, s5, s6, s7, s8, s9, s10, s11, s12, s13, s14, s15⟩, held, rat⟩ : Hart) zeroC := rfl
  rw [hst]
  clear hst
  go_wp2_with (first | (with_reducible refine wpList_load_by rfl rfl St.load_mode rfl ?_) | (with_reducible refine wpList_load_by rfl rfl St.load_s0 rfl ?_) | (with_reducible refine wpList_load_by rfl rfl St.load_s12 rfl ?_) | (with_reducible refine wpList_store_by rfl rfl St.store_mode rfl rfl ?_) | (with_reducible refine wpList_store_by rfl rfl St.store_s0 rfl rfl ?_) | (with_reducible refine wpList_store_by rfl rfl St.store_pc rfl rfl ?_) | (with_reducible refine wpList_load_by rfl rfl (St.load _ _ _ _) rfl ?_) | (with_reducible refine wpList_store_by rfl rfl (St.store _ _ _ _) rfl rfl ?_) | (go_at_call 29; (with_reducible refine (with_any _ _ _ _).mono ?_); rintro e w' ⟨rfl, rfl⟩) | fail)
  have hE : sretF (⟨x, hx, pc, mode, ⟨s0, s1, s2, s3, s4, s5, s6, s7, s8, s9, s10, s11, s12, s13, s14, s15⟩, held, rat⟩ : Hart) = (⟨x, hx, s12, 1, ⟨sretS s0, s1, s2, s3, s4, s5, s6, s7, s8, s9, s10, s11, s12, s13, s14, s15⟩, held, rat⟩ : Hart) := by
    unfold sretF
    rw [show nzV (⟨x, hx, pc, mode, ⟨s0, s1, s2, s3, s4, s5, s6, s7, s8, s9, s10, s11, s12, s13, s14, s15⟩, held, rat⟩ : Hart).c.s0 256 = true from HQ.out]
    rfl
  rw [hE]
  exact bodyPost_ret (v := .tuple #[hartV ((⟨x, hx, s12, 1, ⟨sretS s0, s1, s2, s3, s4, s5, s6, s7, s8, s9, s10, s11, s12, s13, s14, s15⟩, held, rat⟩ : Hart)), .bool true]) (results_two Try.results14 _ _ (W.heap.size + 1) _ _ rfl (St.res _ W _ _) rfl) rfl ⟨rfl, St.below _ W _ _⟩
set_option maxHeartbeats 1000000 in
theorem sret_false (h : Hart) (hm : ¬ h.mode < 1) (hq : nzV h.c.s0 256 = false) (W : World) : Calls Try.prog 14 #[hartV h] W fun e W' => e = .returned (.tuple #[hartV (sretF h), .bool true]) ∧ Below W.heap.size W W' := by
  obtain ⟨x, hx, pc, mode, ⟨s0, s1, s2, s3, s4, s5, s6, s7, s8, s9, s10, s11, s12, s13, s14, s15⟩, held, rat⟩ := h
  have hq2 : (bits .and .u64 s0 256 != 0) = false := hq
  have HQ : RowKit.Hid (nzV s0 256 = false) := Lib.hid hq
  clear hq
  go_enter Try.func14, Try.ntmps14
  go_upto_region 1 with (fail)
  have hst : (W.alloc (hartO (⟨x, hx, pc, mode, ⟨s0, s1, s2, s3, s4, s5, s6, s7, s8, s9, s10, s11, s12, s13, s14, s15⟩, held, rat⟩ : Hart))).alloc zeroO = St 0 W (⟨x, hx, pc, mode, ⟨s0, s1, s2, s3, s4, s5, s6, s7, s8, s9, s10, s11, s12, s13, s14, s15⟩, held, rat⟩ : Hart) zeroC := rfl
  rw [hst]
  clear hst
  go_wp2_with (first | (with_reducible refine wpList_load_by rfl rfl St.load_mode rfl ?_) | (with_reducible refine wpList_load_by rfl rfl St.load_s0 rfl ?_) | (with_reducible refine wpList_load_by rfl rfl St.load_s12 rfl ?_) | (with_reducible refine wpList_store_by rfl rfl St.store_mode rfl rfl ?_) | (with_reducible refine wpList_store_by rfl rfl St.store_s0 rfl rfl ?_) | (with_reducible refine wpList_store_by rfl rfl St.store_pc rfl rfl ?_) | (with_reducible refine wpList_load_by rfl rfl (St.load _ _ _ _) rfl ?_) | (with_reducible refine wpList_store_by rfl rfl (St.store _ _ _ _) rfl rfl ?_) | (go_at_call 29; (with_reducible refine (with_any _ _ _ _).mono ?_); rintro e w' ⟨rfl, rfl⟩) | fail)
  have hE : sretF (⟨x, hx, pc, mode, ⟨s0, s1, s2, s3, s4, s5, s6, s7, s8, s9, s10, s11, s12, s13, s14, s15⟩, held, rat⟩ : Hart) = (⟨x, hx, s12, 0, ⟨sretS s0, s1, s2, s3, s4, s5, s6, s7, s8, s9, s10, s11, s12, s13, s14, s15⟩, held, rat⟩ : Hart) := by
    unfold sretF
    rw [show nzV (⟨x, hx, pc, mode, ⟨s0, s1, s2, s3, s4, s5, s6, s7, s8, s9, s10, s11, s12, s13, s14, s15⟩, held, rat⟩ : Hart).c.s0 256 = false from HQ.out]
    rfl
  rw [hE]
  exact bodyPost_ret (v := .tuple #[hartV ((⟨x, hx, s12, 0, ⟨sretS s0, s1, s2, s3, s4, s5, s6, s7, s8, s9, s10, s11, s12, s13, s14, s15⟩, held, rat⟩ : Hart)), .bool true]) (results_two Try.results14 _ _ (W.heap.size + 1) _ _ rfl (St.res _ W _ _) rfl) rfl ⟨rfl, St.below _ W _ _⟩

end Go.Proofs.Ytbdoiomnoajnpaa
