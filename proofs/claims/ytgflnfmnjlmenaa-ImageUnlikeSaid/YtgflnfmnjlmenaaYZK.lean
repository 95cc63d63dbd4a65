/- The numbers of the devices. -/
import Derived.Test.YtgflnfmnjlmenaaYZJ
namespace Go.Proofs.Ytgflnfmnjlmenaa
open Go.RowKit Go.Deep Go.Joins
set_option maxRecDepth 100000
/-- The numbers of the devices. -/
def devL (b : Bd) : List Int := [flV b.msip, b.cmp, flV b.ier, b.sector, b.addr, flV b.done, flV b.bad, b.nicA, b.nicL, IntKind.u64.wrap b.pl.p1, IntKind.u64.wrap b.pl.p2, IntKind.u64.wrap b.pl.p3, IntKind.u64.wrap b.pl.e0, IntKind.u64.wrap b.pl.e1, IntKind.u64.wrap b.pl.l0, IntKind.u64.wrap b.pl.l1, IntKind.u64.wrap b.pl.c]
set_option maxHeartbeats 4000000 in
theorem dev_any (b : Bd) (W : World) : Calls Try.prog 21 #[bdV b] W (ProcR (devL b) W) := by
  have X := Lib.hid (Box.new W b)
  have B := Lib.hid (below1 W (bdO b))
  go_enter Try.func21, Try.ntmps21
  go_upto_region 1 with fail
  generalize W.alloc (bdO b) = wa at X B ⊢
  go_upto_region 2 with (first | (with_reducible refine wpList_load_by rfl rfl (Box.load_pl X.out) rfl ?_) | (with_reducible refine wpList_store_by rfl rfl (Pc.store_new wa b.pl) rfl rfl ?_) | fail)
  have X2 := Lib.hid (X.out.next (below1 wa (Pc.plO b.pl)))
  have B2 := Lib.hid (below_then B.out (below1 wa (Pc.plO b.pl)))
  have Y2 := Lib.hid (Pc.Box.new wa b.pl)
  clear X B
  generalize wa.heap.size = z at Y2 ⊢
  generalize wa.alloc (Pc.plO b.pl) = wb at X2 B2 Y2 ⊢
  refine dr (fun w => Box w W.heap.size b ∧ Pc.Box w z b.pl) fun wz hzz => ?_
  have hS : Box wz W.heap.size b ∧ Pc.Box wz z b.pl := ⟨X2.out.next hzz, Y2.out.next hzz⟩
  have BZ := Lib.hid (below_then B2.out hzz)
  clear hzz X2 Y2 B2
  refine tk 0 hS ?_
  refine tl 1 hS (fun w hw => Box.load_msip hw.1) ?_
  refine tk 3 hS ?_
  refine tl 4 hS (fun w hw => Box.load_cmp hw.1) ?_
  refine tk 5 hS ?_
  refine tl 6 hS (fun w hw => Box.load_ier hw.1) ?_
  refine tk 8 hS ?_
  refine tl 9 hS (fun w hw => Box.load_sector hw.1) ?_
  refine tk 10 hS ?_
  refine tl 11 hS (fun w hw => Box.load_addr hw.1) ?_
  refine tk 12 hS ?_
  refine tl 13 hS (fun w hw => Box.load_done hw.1) ?_
  refine tk 15 hS ?_
  refine tl 16 hS (fun w hw => Box.load_bad hw.1) ?_
  refine tk 18 hS ?_
  refine tl 19 hS (fun w hw => Box.load_nicA hw.1) ?_
  refine tk 20 hS ?_
  refine tl 21 hS (fun w hw => Box.load_nicL hw.1) ?_
  refine tk 22 hS ?_
  refine tk 23 hS ?_
  refine tl 24 hS (fun w hw => Pc.Box.load_p1 hw.2) ?_
  refine tk 25 hS ?_
  refine tk 26 hS ?_
  refine tk 27 hS ?_
  refine tl 28 hS (fun w hw => Pc.Box.load_p2 hw.2) ?_
  refine tk 29 hS ?_
  refine tk 30 hS ?_
  refine tk 31 hS ?_
  refine tl 32 hS (fun w hw => Pc.Box.load_p3 hw.2) ?_
  refine tk 33 hS ?_
  refine tk 34 hS ?_
  refine tk 35 hS ?_
  refine tl 36 hS (fun w hw => Pc.Box.load_e0 hw.2) ?_
  refine tk 37 hS ?_
  refine tk 38 hS ?_
  refine tk 39 hS ?_
  refine tl 40 hS (fun w hw => Pc.Box.load_e1 hw.2) ?_
  refine tk 41 hS ?_
  refine tk 42 hS ?_
  refine tk 43 hS ?_
  refine tl 44 hS (fun w hw => Pc.Box.load_l0 hw.2) ?_
  refine tk 45 hS ?_
  refine tk 46 hS ?_
  refine tk 47 hS ?_
  refine tl 48 hS (fun w hw => Pc.Box.load_l1 hw.2) ?_
  refine tk 49 hS ?_
  refine tk 50 hS ?_
  refine tl 51 hS (fun w hw => Pc.Box.load_c hw.2) ?_
  refine tk 52 hS ?_
  refine hc 2 (calls_quiet (flag_any b.msip wz)) ?_
  rintro v' wb' ⟨rfl, rfl⟩
  refine ⟨hS, fun hS => ?_⟩
  simp only [puts]
  refine hc 7 (calls_quiet (flag_any b.ier wz)) ?_
  rintro v' wb' ⟨rfl, rfl⟩
  refine ⟨hS, fun hS => ?_⟩
  simp only [puts]
  refine hc 14 (calls_quiet (flag_any b.done wz)) ?_
  rintro v' wb' ⟨rfl, rfl⟩
  refine ⟨hS, fun hS => ?_⟩
  simp only [puts]
  refine hc 17 (calls_quiet (flag_any b.bad wz)) ?_
  rintro v' wb' ⟨rfl, rfl⟩
  refine ⟨hS, fun hS => ?_⟩
  simp only [puts]
  have b3 := below1 wz (.cells #[.int .u64 (flV b.msip), .int .u64 (b.cmp), .int .u64 (flV b.ier), .int .u64 (b.sector), .int .u64 (b.addr), .int .u64 (flV b.done), .int .u64 (flV b.bad), .int .u64 (b.nicA), .int .u64 (b.nicL), .int .u64 (IntKind.u64.wrap b.pl.p1), .int .u64 (IntKind.u64.wrap b.pl.p2), .int .u64 (IntKind.u64.wrap b.pl.p3), .int .u64 (IntKind.u64.wrap b.pl.e0), .int .u64 (IntKind.u64.wrap b.pl.e1), .int .u64 (IntKind.u64.wrap b.pl.l0), .int .u64 (IntKind.u64.wrap b.pl.l1), .int .u64 (IntKind.u64.wrap b.pl.c)] 22)
  have hS3 : Box (wz.alloc (.cells #[.int .u64 (flV b.msip), .int .u64 (b.cmp), .int .u64 (flV b.ier), .int .u64 (b.sector), .int .u64 (b.addr), .int .u64 (flV b.done), .int .u64 (flV b.bad), .int .u64 (b.nicA), .int .u64 (b.nicL), .int .u64 (IntKind.u64.wrap b.pl.p1), .int .u64 (IntKind.u64.wrap b.pl.p2), .int .u64 (IntKind.u64.wrap b.pl.p3), .int .u64 (IntKind.u64.wrap b.pl.e0), .int .u64 (IntKind.u64.wrap b.pl.e1), .int .u64 (IntKind.u64.wrap b.pl.l0), .int .u64 (IntKind.u64.wrap b.pl.l1), .int .u64 (IntKind.u64.wrap b.pl.c)] 22)) W.heap.size b ∧ Pc.Box (wz.alloc (.cells #[.int .u64 (flV b.msip), .int .u64 (b.cmp), .int .u64 (flV b.ier), .int .u64 (b.sector), .int .u64 (b.addr), .int .u64 (flV b.done), .int .u64 (flV b.bad), .int .u64 (b.nicA), .int .u64 (b.nicL), .int .u64 (IntKind.u64.wrap b.pl.p1), .int .u64 (IntKind.u64.wrap b.pl.p2), .int .u64 (IntKind.u64.wrap b.pl.p3), .int .u64 (IntKind.u64.wrap b.pl.e0), .int .u64 (IntKind.u64.wrap b.pl.e1), .int .u64 (IntKind.u64.wrap b.pl.l0), .int .u64 (IntKind.u64.wrap b.pl.l1), .int .u64 (IntKind.u64.wrap b.pl.c)] 22)) z b.pl := ⟨hS.1.next b3, hS.2.next b3⟩
  refine ho 53 (w' := wz.alloc (.cells #[.int .u64 (flV b.msip), .int .u64 (b.cmp), .int .u64 (flV b.ier), .int .u64 (b.sector), .int .u64 (b.addr), .int .u64 (flV b.done), .int .u64 (flV b.bad), .int .u64 (b.nicA), .int .u64 (b.nicL), .int .u64 (IntKind.u64.wrap b.pl.p1), .int .u64 (IntKind.u64.wrap b.pl.p2), .int .u64 (IntKind.u64.wrap b.pl.p3), .int .u64 (IntKind.u64.wrap b.pl.e0), .int .u64 (IntKind.u64.wrap b.pl.e1), .int .u64 (IntKind.u64.wrap b.pl.l0), .int .u64 (IntKind.u64.wrap b.pl.l1), .int .u64 (IntKind.u64.wrap b.pl.c)] 22)) (v := .slice (some ⟨wz.heap.size, 0, none⟩) 17 17) hS3 ?_
  refine tk 54 hS3 ?_
  refine wpAnyH_done (by kernel_rfl) ?_ _
  have R := Lib.hid (show RowM W (wz.alloc (.cells #[.int .u64 (flV b.msip), .int .u64 (b.cmp), .int .u64 (flV b.ier), .int .u64 (b.sector), .int .u64 (b.addr), .int .u64 (flV b.done), .int .u64 (flV b.bad), .int .u64 (b.nicA), .int .u64 (b.nicL), .int .u64 (IntKind.u64.wrap b.pl.p1), .int .u64 (IntKind.u64.wrap b.pl.p2), .int .u64 (IntKind.u64.wrap b.pl.p3), .int .u64 (IntKind.u64.wrap b.pl.e0), .int .u64 (IntKind.u64.wrap b.pl.e1), .int .u64 (IntKind.u64.wrap b.pl.l0), .int .u64 (IntKind.u64.wrap b.pl.l1), .int .u64 (IntKind.u64.wrap b.pl.c)] 22)) (.slice (some ⟨wz.heap.size, 0, none⟩) 17 17) (devL b) from ⟨below_then BZ.out b3, World.ownsRow_lit (base := W.heap.size) (e := 22) (size := 1) wz #[.int .u64 (flV b.msip), .int .u64 (b.cmp), .int .u64 (flV b.ier), .int .u64 (b.sector), .int .u64 (b.addr), .int .u64 (flV b.done), .int .u64 (flV b.bad), .int .u64 (b.nicA), .int .u64 (b.nicL), .int .u64 (IntKind.u64.wrap b.pl.p1), .int .u64 (IntKind.u64.wrap b.pl.p2), .int .u64 (IntKind.u64.wrap b.pl.p3), .int .u64 (IntKind.u64.wrap b.pl.e0), .int .u64 (IntKind.u64.wrap b.pl.e1), .int .u64 (IntKind.u64.wrap b.pl.l0), .int .u64 (IntKind.u64.wrap b.pl.l1), .int .u64 (IntKind.u64.wrap b.pl.c)] 17 BZ.out.size (by unfold maxLen; omega) rfl⟩)
  clear hS3 b3 hS
  generalize wz.alloc (.cells #[.int .u64 (flV b.msip), .int .u64 (b.cmp), .int .u64 (flV b.ier), .int .u64 (b.sector), .int .u64 (b.addr), .int .u64 (flV b.done), .int .u64 (flV b.bad), .int .u64 (b.nicA), .int .u64 (b.nicL), .int .u64 (IntKind.u64.wrap b.pl.p1), .int .u64 (IntKind.u64.wrap b.pl.p2), .int .u64 (IntKind.u64.wrap b.pl.p3), .int .u64 (IntKind.u64.wrap b.pl.e0), .int .u64 (IntKind.u64.wrap b.pl.e1), .int .u64 (IntKind.u64.wrap b.pl.l0), .int .u64 (IntKind.u64.wrap b.pl.l1), .int .u64 (IntKind.u64.wrap b.pl.c)] 22) = wy at R ⊢
  generalize some (⟨wz.heap.size, 0, none⟩ : Addr) = q at R ⊢
  go_wp2_with fail
  go_ret
  exact ⟨q, 17, rfl, R.out⟩
end Go.Proofs.Ytgflnfmnjlmenaa
