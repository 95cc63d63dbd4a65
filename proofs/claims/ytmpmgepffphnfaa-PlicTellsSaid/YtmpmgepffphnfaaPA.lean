/- PlicTells walked. -/
import Derived.Test.YtmpmgepffphnfaaO
import Derived.BigQuiet
namespace Go.Proofs.Ytmpmgepffphnfaa
open Go.RowKit Go.Deep Go.Joins
set_option maxRecDepth 100000 in
set_option maxHeartbeats 1000000 in
theorem tells_walk (h a b : Pl) (s t z who v n8 n10 n : Int) (r y q : Bool) (c8 : RowKit.Hid (∀ W, Calls Try.prog 8 #[plV h, .int .u32 s, .int .i64 who] W fun e W' => e = .returned (.int .i64 n8) ∧ Below W.heap.size W W')) (c9 : RowKit.Hid (∀ W, Calls Try.prog 9 #[plV h, .int .u32 s, .int .i64 who] W fun e W' => e = .returned (.int .i64 n8) ∧ Below W.heap.size W W')) (c10 : RowKit.Hid (∀ W, Calls Try.prog 10 #[plV h, .int .u32 s] W fun e W' => e = .returned (.int .u64 n10) ∧ Below W.heap.size W W')) (c11 : RowKit.Hid (∀ W, Calls Try.prog 11 #[plV h, .int .u32 s] W fun e W' => e = .returned (.int .u64 n10) ∧ Below W.heap.size W W')) (c12 : RowKit.Hid (∀ W, Calls Try.prog 12 #[plV h] W fun e W' => e = .returned (.bool r) ∧ Below W.heap.size W W')) (c13 : RowKit.Hid (∀ W, Calls Try.prog 13 #[plV h] W fun e W' => e = .returned (.bool r) ∧ Below W.heap.size W W')) (c14 : RowKit.Hid (∀ W, Calls Try.prog 14 #[plV h, .int .u32 s, .int .u64 t, .int .i64 z] W fun e W' => e = .returned (.tuple #[plV a, .int .u64 n, .bool y]) ∧ Below W.heap.size W W')) (c15 : RowKit.Hid (∀ W, Calls Try.prog 15 #[plV h, .int .u32 s, .int .u64 t, .int .i64 z] W fun e W' => e = .returned (.tuple #[plV a, .int .u64 n, .bool y]) ∧ Below W.heap.size W W')) (c16 : RowKit.Hid (∀ W, Calls Try.prog 16 #[plV h, .int .u64 t, .int .i64 z, .int .u64 v] W fun e W' => e = .returned (.tuple #[plV b, .bool q]) ∧ Below W.heap.size W W')) (c17 : RowKit.Hid (∀ W, Calls Try.prog 17 #[plV h, .int .u64 t, .int .i64 z, .int .u64 v] W fun e W' => e = .returned (.tuple #[plV b, .bool q]) ∧ Below W.heap.size W W')) (W : World) : Calls Try.prog 3 #[plV h, .int .u32 s, .int .u64 t, .int .i64 z, .int .i64 who, .int .u64 v] W fun e W' => e = .returned (.bool true) ∧ Below W.heap.size W W' := by
  have X := Lib.hid ((Vs.nil W).new h)
  go_enter Try.func3, Try.ntmps3
  go_upto_region 1 with (fail)
  generalize W.alloc (plO h) = w0 at *
  have hne : Nonempty (Near w0) := ⟨⟨w0, Below.refl _ _⟩⟩
  refine wp_region_near (by kernel_rfl) (by kernel_rfl) ?_
  have XB := Lib.hid X.out.g0
  repeat (first | (go_big_quiet_want; (with_reducible refine quiet_by _ (fun w hw => exec_load (t := 26) rfl (near_load XB.out w hw) rfl) ?_); simp only [Act.put, List.setIfInBounds_toArray, List.set_cons_zero, List.set_cons_succ]; go_big_quiet_on) | go_big_quiet_step (first | (go_at_call 7; exact near_call (awake_any _)) | (go_at_call 8; exact near_call (c8.out _)) | (go_at_call 9; exact near_call (c9.out _)) | (go_at_call 10; exact near_call (c10.out _)) | (go_at_call 11; exact near_call (c11.out _)) | (go_at_call 12; exact near_call (c12.out _)) | (go_at_call 13; exact near_call (c13.out _)) | fail))
  refine wpQuiet_nil ?_
  rintro _ ⟨pn, rfl⟩
  have X := Lib.hid (X.out.next pn.near)
  clear hne XB
  generalize pn.wx = w1 at *
  go_wp2_with (first | (with_reducible refine wpList_load_by rfl rfl (Box.load (Vs.g0 X.out)) rfl ?_) | (with_reducible refine wpList_load_by rfl rfl (Box.load (Vs.g1 X.out)) rfl ?_) | (with_reducible refine wpList_load_by rfl rfl (Box.load (Vs.g2 X.out)) rfl ?_) | (with_reducible refine wpList_load_wanted (by first | exact rfl | (simp [Region.wanted, yielded]; done)) rfl (Box.load (Vs.g0 X.out)) rfl ?_) | (with_reducible refine wpList_load_wanted (by first | exact rfl | (simp [Region.wanted, yielded]; done)) rfl (Box.load (Vs.g1 X.out)) rfl ?_) | (with_reducible refine wpList_load_wanted (by first | exact rfl | (simp [Region.wanted, yielded]; done)) rfl (Box.load (Vs.g2 X.out)) rfl ?_) | (go_at_call 14; (with_reducible refine (c14.out _).mono ?_); rintro e w' ⟨rfl, kk⟩; have X := Lib.hid (X.out.next kk); clear kk) | (go_at_call 15; (with_reducible refine (c15.out _).mono ?_); rintro e w' ⟨rfl, kk⟩; have X := Lib.hid (X.out.next kk); clear kk) | (go_at_call 16; (with_reducible refine (c16.out _).mono ?_); rintro e w' ⟨rfl, kk⟩; have X := Lib.hid (X.out.next kk); clear kk) | (go_at_call 17; (with_reducible refine (c17.out _).mono ?_); rintro e w' ⟨rfl, kk⟩; have X := Lib.hid (X.out.next kk); clear kk) | (with_reducible refine wpList_store_by rfl rfl (store_new _ (a)) rfl rfl ?_; have X := Lib.hid (X.out.new (a))) | (with_reducible refine wpList_store_ex rfl rfl (Vs.put0 X.out _) rfl rfl ?_; intro wy hy; have X := Lib.hid hy; clear hy) | (with_reducible refine wpList_store_ex rfl rfl (Vs.put1 X.out _) rfl rfl ?_; intro wy hy; have X := Lib.hid hy; clear hy) | (with_reducible refine wpList_exec (by kernel_rfl) (exec_neq a _ rfl rfl rfl) ?_; simp only [Act.put, List.setIfInBounds_toArray, List.set_cons_zero, List.set_cons_succ]) | (with_reducible refine wpList_exec (by kernel_rfl) (exec_eql b _ rfl rfl rfl) ?_; simp only [Act.put, List.setIfInBounds_toArray, List.set_cons_zero, List.set_cons_succ]) | fail)
  go_ret
  exact ⟨rfl, X.out.below⟩

end Go.Proofs.Ytmpmgepffphnfaa
