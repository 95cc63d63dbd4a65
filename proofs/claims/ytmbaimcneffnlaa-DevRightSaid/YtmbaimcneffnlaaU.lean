/- awake. -/
import Derived.Test.YtmbaimcneffnlaaVV
import Derived.Test.YtmbaimcneffnlaaN
namespace Go.Proofs.Ytmbaimcneffnlaa
open Go.RowKit Go.Deep Go.Joins
theorem zer_len : (zer.size : Int) = 1024 := by rw [zer_size]; rfl
set_option maxRecDepth 100000 in
set_option maxHeartbeats 2000000 in
theorem awake_any (W : World) : Calls Try.prog 7 #[] W fun e W' => e = .returned (.bool true) ∧ Below W.heap.size W W' := by
  have cN := Lib.hid new_any
  have cS : RowKit.Hid (∀ W, Calls Try.prog 18 #[bdV bdN, .int .u64 268435456, .int .i64 1, .int .u64 65] W (Told W bdN [] (fun x => .tuple #[x, effV 1 ⟨#[65]⟩, .bool true]))) := Lib.hid fun W => store_3 bdN [] 65 W (fat_none W) (by simp) (by omega)
  have hz : RowKit.Hid (∀ p n c, (bdN.at p n c).sec = zer ∧ (bdN.at p n c).cmp = 18446744073709551615) := Lib.hid fun _ _ _ => ⟨rfl, rfl⟩
  have hzl := zer_len
  have X := Lib.hid (Mem.start W)
  go_enter Try.func7, Try.ntmps7
  go_upto_region 2 with (first | (go_at_call 23; (with_reducible refine (cN.out _).mono ?_); rintro e w1 ⟨rfl, k1⟩; have X := Lib.hid (X.out.next k1)) | (go_at_call 18; (with_reducible refine (cS.out _).mono ?_); rintro e w2 ⟨p, c, rfl, ho, k2⟩; have X := Lib.hid ((X.out.next k2).newZE)) | (with_reducible refine w_box X.out.b1 rfl rfl rfl rfl ?_; intro wy hwy; have X := Lib.hid (X.out.p1 hwy); clear hwy) | (with_reducible refine EBox.w_all X.out.e0 rfl rfl rfl rfl ?_; intro wy hwy; have X := Lib.hid (X.out.p0 hwy); clear hwy) | fail)
  have m0 := X.out.e0
  have x1 := X.out.b1.cell_cmp
  have x2 := X.out.b1.cell_sec
  rw [(hz.out _ _ _).1] at x2
  rw [(hz.out _ _ _).2] at x1
  have e0 : wy.cell? ⟨w2.heap.size + 1, 0, none⟩ = some (.int .i64 1) := cell_of_row _ _ 0 _ 42 (0, 0) m0
  have e1 : wy.cell? ⟨w2.heap.size + 1, 1, none⟩ = some (.string ⟨#[65]⟩) := cell_of_row _ _ 1 _ 42 (0, 0) m0
  clear m0
  generalize zer = zz at *
  go_wp2_with fail
  go_ret
  exact ⟨rfl, X.out.below⟩

end Go.Proofs.Ytmbaimcneffnlaa
