/- The interrupts of all devices. -/
import Derived.Test.YtjohcpokmdofkaaGreatDoorYBX
import Derived.Test.YtjohcpokmdofkaaGreatDoorYPE
import Derived.Test.YtjohcpokmdofkaaGreatDoorYDX
namespace Go.Proofs.YtjohcpokmdofkaaGreatDoor
open Go.RowKit Go.Deep Go.Joins
/-- The interrupts of all devices. -/
def linesV (m : Mc) (p : Pt) : Int := bits .or .u64 (clockV m.b m.cnt) (Pc.linesF m.b.pl (sourcesV m.b p.F))
set_option maxRecDepth 100000 in
set_option maxHeartbeats 4000000 in
theorem lines_m (m : Mc) (p : Pt) (W : World) (hl : m.b.fn = p.F.length) : Calls Tryz.prog 23 #[mcV m] W fun e W' => e = .returned (.int .u64 (linesV m p)) ∧ Below W.heap.size W W' := by
  have C1 := Lib.hid (fun W => clock_any m.b m.cnt W)
  have C2 := Lib.hid (fun W => sources_any m.b p.F W hl)
  have C3 := Lib.hid (fun W => Pc.lines_any m.b.pl (sourcesV m.b p.F) W)
  unfold linesV
  generalize sourcesV m.b p.F = sv at C2 C3 ⊢
  generalize clockV m.b m.cnt = cv at C1 ⊢
  generalize Pc.linesF m.b.pl sv = lv at C3 ⊢
  clear hl
  go_enter Tryz.func23, Tryz.ntmps23
  have X := Lib.hid ((Mem.start W).new (mcC m) 42 (by decide))
  go_upto_region 1 with (fail)
  generalize W.alloc (.cells (mcC m) 42) = wa at X ⊢
  refine dr (fun w => MBox w W.heap.size m) fun wz hzz => ?_
  have X := Lib.hid (X.out.next hzz)
  clear hzz
  have hS : MBox wz W.heap.size m := X.out.g0
  refine tk 0 hS ?_
  refine tl 1 hS (fun w hw => MBox.load_b hw) ?_
  refine tk 2 hS ?_
  refine tl 3 hS (fun w hw => MBox.load_cnt hw) ?_
  refine tk 5 hS ?_
  refine tk 6 hS ?_
  refine tl 7 hS (fun w hw => MBox.load_pl hw) ?_
  refine tk 8 hS ?_
  refine tl 9 hS (fun w hw => MBox.load_b hw) ?_
  refine hc 4 (calls_told (C1.out _)) ?_
  rintro v' wb ⟨rfl, kk⟩
  have X := Lib.hid (X.out.next kk)
  refine ⟨X.out.g0, fun hS => ?_⟩
  clear kk
  simp only [puts]
  refine hc 10 (calls_told (C2.out _)) ?_
  rintro v' wb ⟨rfl, kk⟩
  have X := Lib.hid (X.out.next kk)
  refine ⟨X.out.g0, fun hS => ?_⟩
  clear kk
  simp only [puts]
  refine hc 11 (calls_told (C3.out _)) ?_
  rintro v' wb ⟨rfl, kk⟩
  have X := Lib.hid (X.out.next kk)
  refine ⟨X.out.g0, fun hS => ?_⟩
  clear kk
  simp only [puts]
  refine tk 12 hS ?_
  refine tk 13 hS ?_
  refine wpAnyH_done (by kernel_rfl) ?_ _
  go_wp2_with fail
  go_ret
  exact ⟨rfl, X.out.below⟩

end Go.Proofs.YtjohcpokmdofkaaGreatDoor
