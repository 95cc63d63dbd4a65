/- awake. -/
import Derived.Test.YtocphogddjcblaaE
namespace Go.Proofs.Ytocphogddjcblaa
open Go.RowKit Go.Deep Go.Joins
theorem awake_load : le (((spl (List.replicate (1 * 256) 0) 0 ⟨#[97, 98]⟩).drop 0).take 2) = 25185 := by decide +kernel
set_option maxHeartbeats 1000000 in
theorem awake_any (w : World) : Calls Try.prog 8 #[] w fun e w' => e = .returned (.bool true) ∧ Below w.heap.size w w' := by
  go_enter Try.func8, Try.ntmps8
  go_wp2_with fail
  refine (new_any 1 _ _ (by omega) (by omega) (by decide)).mono ?_
  rintro e w1 ⟨dv, mv, rfl, hd, hm, hb⟩
  obtain ⟨p, cap, rfl⟩ := owns_shape hd
  obtain ⟨p2, cap2, rfl⟩ := owns_shape hm
  have hlen : (spl (List.replicate (1 * 256) 0) 0 ⟨#[97, 98]⟩).length = 256 := by decide +kernel
  have hd1 := hd.at.below (below1 w1 (.cells #[.slice p (spl (List.replicate (1 * 256) 0) 0 ⟨#[97, 98]⟩).length cap, .slice p2 (List.replicate 1 (0 : Int)).length cap2, .int .u64 0] 26))
  have hload := awake_load
  generalize spl (List.replicate (1 * 256) 0) 0 ⟨#[97, 98]⟩ = D at *
  generalize (List.replicate 1 (0 : Int)).length = m at *
  have HD := Lib.hid hd1
  have HB := Lib.hid hb
  have HLEN := Lib.hid hlen
  have HLOAD := Lib.hid hload
  clear hd hd1 hb hm hlen hload
  go_wp2_with fail
  refine (load_any _ D _ _ _ _ _ HD.out (by omega) (by omega) (by decide) (there_iff.2 ⟨by omega, by omega, by rw [HLEN.out]; omega⟩)).mono ?_
  rintro e w2 ⟨rfl, hb2⟩
  rw [show ((2147483648 : Int) - 2147483648).toNat = 0 by omega, show ((2 : Int)).toNat = 2 from rfl, HLOAD.out]
  have f0 := hb2.cell (p := ⟨w1.heap.size, 0, none⟩) (by simp)
  rw [World.cell?_alloc_new] at f0
  have hbw := below_then (below_then HB.out (below1 w1 _)) hb2
  rw [HLEN.out] at *
  have HBW := Lib.hid hbw
  clear hbw hb2 HD HB HLEN HLOAD
  go_wp2_with fail
  go_ret
  exact ⟨rfl, HBW.out⟩
end Go.Proofs.Ytocphogddjcblaa
