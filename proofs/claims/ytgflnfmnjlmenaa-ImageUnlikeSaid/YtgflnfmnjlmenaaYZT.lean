/- The head of a machine. -/
import Derived.Test.YtgflnfmnjlmenaaYZS
namespace Go.Proofs.Ytgflnfmnjlmenaa
open Go.RowKit Go.Deep Go.Joins
set_option maxRecDepth 100000
def headF (m : Mc) (p : Pt) : List ByteArray := (procL m.h ++ devL m.b).map numI ++ [m.b.inn, m.b.sec] ++ [m.cnt, m.nxt].map numI ++ p.F
def NOk (m : Mc) : Prop := (∀ x ∈ procL m.h ++ devL m.b, In64 x) ∧ In64 m.cnt ∧ In64 m.nxt
def headV (m : Mc) (p : Pt) : Value := if chkM m p = 0 then (if pkOk (headF m p) = true then .tuple #[.string (packB (headF m p)), .int .i64 0] else .tuple #[.string ⟨#[]⟩, .int .i64 2]) else .tuple #[.string ⟨#[]⟩, .int .i64 (chkM m p)]
theorem chk_zero {m : Mc} {p : Pt} (h : chkM m p = 0) : chkB p.D.length p.M m.E = true ∧ rightH m.h = true ∧ rightB m.b p.F = true ∧ Pc.rightF m.b.pl = true := by
  unfold chkM at h
  split at h
  · cases h
  · rename_i h1
    split at h
    · rename_i h2
      simp only [Bool.and_eq_true] at h2
      exact ⟨by simpa using h1, h2.1.1, h2.1.2, h2.2⟩
    · cases h
theorem right_len {b : Bd} {F : List ByteArray} (h : rightB b F = true) : F.length ≤ 64 := by
  unfold rightB at h
  simp only [Bool.and_eq_true, decide_eq_true_eq] at h
  exact h.1.2
set_option maxHeartbeats 1000000 in
theorem head_no (m : Mc) (p : Pt) (W : World) (K : MR W m p) (h : chkM m p ≠ 0) : Calls Try.prog 10 #[mcV m] W fun e W' => e = .returned (headV m p) ∧ Below W.heap.size W W' := by
  have X := Lib.hid (MBox.new W m)
  have B := Lib.hid (below1 W (mcO m))
  have C := Lib.hid (check_m m p _ (K.next (below1 W (mcO m))))
  have HE := Lib.hid (show headV m p = .tuple #[.string ⟨#[]⟩, .int .i64 (chkM m p)] by unfold headV; rw [if_neg h])
  have hb : (chkM m p != 0) = true := by rw [bne_iff_ne]; exact h
  clear K
  go_enter Try.func10, Try.ntmps10
  go_upto_region 1 with fail
  generalize W.alloc (mcO m) = wa at X B C ⊢
  go_wp2_with (first | (with_reducible refine wpList_load_by rfl rfl (MBox.load X.out) rfl ?_) | (go_at_call 18; (with_reducible refine C.out.mono ?_); rintro e w1 ⟨rfl, k1⟩; have B1 := Lib.hid (below_then B.out k1); clear k1) | fail)
  go_ret2
  exact ⟨by rw [HE.out] <;> rfl, B1.out⟩
theorem RowF.app {W w : World} {v s : Value} {F G : List ByteArray} (h : RowF W w v F) (hs : FAt w s G) (hl : F.length + G.length ≤ 1000000000) (ty : TypeId) :
    ∃ X q c w', RowKit.Hid (X = F ++ G) ∧ (Builtin.append_ #[28, 28] ty #[v, s]).run Try.prog w = .ok (.slice q X.length c) w' ∧ RowF W w' (.slice q X.length c) X ∧ Touch w w' (fun k => some k = v.ownBlock) := by
  obtain ⟨q, c, w', hr, ho, ht⟩ := app_f h.own hs hl h.below.size ty
  exact ⟨_, q, c, w', Lib.hid rfl, hr, ⟨app_below h.below h.own ht, ho⟩, ht⟩
theorem MBox.app {w w' : World} {B n g : Nat} {v : Value} {xs : List Value} {m : Mc} (k : MBox w g m) (ho : w.ownsRow B 9 1 v n xs) (ht : Touch w w' (fun k => some k = v.ownBlock)) : MBox w' g m := app_box ho ht k (by decide)
theorem calls_row {f : FuncId} {args : Array Value} {W : World} {L : List Int} (h : Calls Try.prog f args W (ProcR L W)) : Calls Try.prog f args W fun e w' => ∃ u, e = .returned u ∧ ∃ q c, u = .slice q L.length c ∧ RowM W w' (.slice q L.length c) L :=
  h.mono fun _ _ ⟨q, c, e, r⟩ => ⟨_, e, q, c, rfl, r⟩
theorem calls_rowF {f : FuncId} {args : Array Value} {W : World} {L : List Int} (h : Calls Try.prog f args W (NumsR L W)) : Calls Try.prog f args W fun e w' => ∃ u, e = .returned u ∧ ∃ X q c, RowKit.Hid (X = L.map numI) ∧ u = .slice q X.length c ∧ RowF W w' (.slice q X.length c) X :=
  h.mono fun _ _ ⟨q, c, e, r⟩ => ⟨_, e, _, q, c, Lib.hid rfl, rfl, r⟩
theorem devL_length (b : Bd) : (devL b).length = 17 := rfl
set_option maxHeartbeats 4000000 in
theorem head_yes (m : Mc) (p : Pt) (W : World) (K : MR W m p) (N : NOk m) (h : chkM m p = 0) : Calls Try.prog 10 #[mcV m] W fun e W' => e = .returned (headV m p) ∧ Below W.heap.size W W' := by
  have hF := right_len (chk_zero h).2.2.1
  have X := Lib.hid (MBox.new W m)
  have B := Lib.hid (below1 W (mcO m))
  have C := Lib.hid (check_m m p _ (K.next (below1 W (mcO m))))
  rw [h] at C
  have HE := Lib.hid (show headV m p = (if pkOk (headF m p) = true then .tuple #[.string (packB (headF m p)), .int .i64 0] else .tuple #[.string ⟨#[]⟩, .int .i64 2]) by unfold headV; rw [if_pos h])
  have KF := Lib.hid (fun w' (hb : Below W.heap.size W w') => (K.next hb).fr)
  have HN := Lib.hid N
  have HF := Lib.hid hF
  have hn : m.b.fn = p.F.length := K.fr.len
  clear K h N hF
  go_enter Try.func10, Try.ntmps10
  go_upto_region 1 with fail
  generalize W.alloc (mcO m) = wa at X B C ⊢
  go_upto_region 4 with (first | (with_reducible refine wpList_load_by rfl rfl (MBox.load X.out) rfl ?_) | (go_at_call 18; (with_reducible refine C.out.mono ?_); rintro e w1 ⟨rfl, k1⟩; have B1 := Lib.hid (below_then B.out k1); have X1 := Lib.hid (X.out.next k1); clear k1) | fail)
  clear X B C
  refine dr (fun w => MBox w W.heap.size m) fun wz hzz => ?_
  have hS := X1.out.next hzz
  have B2 := Lib.hid (below_then B1.out hzz)
  clear hzz X1 B1
  refine tk 0 hS ?_
  refine tl 1 hS (fun w hw => MBox.load_hart hw) ?_
  refine tk 3 hS ?_
  refine tl 4 hS (fun w hw => MBox.load_b hw) ?_
  refine hc 2 (calls_row (proc_any m.h wz)) ?_
  rintro v' w1 ⟨q1, c1, rfl, r1⟩
  refine ⟨hS.next r1.below, fun hS1 => ?_⟩
  simp only [puts]
  refine hc 5 (calls_row (dev_any m.b w1)) ?_
  rintro v' w2 ⟨q2, c2, rfl, r2⟩
  refine ⟨hS1.next r2.below, fun hS2 => ?_⟩
  simp only [puts]
  obtain ⟨q3, c3, w3, hr3, ho3, ht3⟩ := app_u (owns_below r1.own r2.below) (OwnM.at r2.own) (by rw [procL_length, devL_length]; decide) (Nat.le_trans r1.below.size r2.below.size) 37
  have hS3 : MBox w3 W.heap.size m := app_box (owns_below r1.own r2.below) ht3 hS2 (by decide)
  have hb3 : Below wz.heap.size wz w3 := app_below (below_then r1.below r2.below) (owns_below r1.own r2.below) ht3
  refine ho 6 (w' := w3) (v := .slice q3 (procL m.h ++ devL m.b).length c3) hS3 ?_ (hrun := exec_append rfl rfl rfl hr3)
  refine hc 7 (calls_rowF (nums_any _ (procL m.h ++ devL m.b) w3 (OwnM.at ho3) (by rw [List.length_append, procL_length, devL_length]; decide) HN.out.1)) ?_
  rintro v' w4 ⟨F4, q4, c4, E4, rfl, r4⟩
  refine ⟨hS3.next r4.below, fun hS4 => ?_⟩
  simp only [puts]
  refine tk 8 hS4 ?_
  refine wpAnyH_done (by kernel_rfl) ?_ _
  have HX := Lib.hid hS4
  have L4 := Lib.hid (show F4.length = 69 by rw [E4.out, List.length_map, List.length_append, procL_length, devL_length])
  have HB := Lib.hid (below_then (below_then B2.out hb3) r4.below)
  have R4 := Lib.hid (show RowF W w4 (.slice q4 F4.length c4) F4 from ⟨HB.out, owns_base r4.own (below_then B2.out hb3).size⟩)
  clear hS hS1 hS2 hS3 hS4 r1 r2 hr3 ho3 ht3 hb3 r4
  -- In and Sectors
  have b5 := below1 w4 (.cells #[.string m.b.inn, .string m.b.sec] 9)
  obtain ⟨F6, q6, c6, w6, E6, hr6, r6, ht6⟩ := (R4.out.next b5).app (s := .slice (some ⟨w4.heap.size, 0, none⟩) 2 2) (G := [m.b.inn, m.b.sec]) (reads_of_owns (World.ownsRow_lit (base := 0) (e := 9) (size := 1) w4 #[.string m.b.inn, .string m.b.sec] 2 (Nat.zero_le _) (by unfold maxLen; omega) rfl)) (by rw [L4.out]; simp) 28
  have X6 := Lib.hid (MBox.app (HX.out.next b5) (R4.out.next b5).own ht6)
  have L6 := Lib.hid (show F6.length = 71 by rw [E6.out, List.length_append, L4.out]; rfl)
  have HR6 := Lib.hid hr6
  have R6 := Lib.hid r6
  have HW := Lib.hid (show m.b.fn = p.F.length from hn)
  clear hr6 r6 b5 ht6 hn
  go_upto_region 6 with (first | (with_reducible refine wpList_load_by rfl rfl (MBox.load_inn HX.out) rfl ?_) | (with_reducible refine wpList_load_by rfl rfl (MBox.load_sec HX.out) rfl ?_) | (at_builtin; (refine wpList_append_run rfl _ _ 28 rfl _ _ _ rfl rfl _ HR6.out ?_)) | fail)
  clear HX HR6 R4 HB
  have N7 := Lib.hid (calls_rowF (nums_any (.slice (some ⟨w6.heap.size, 0, none⟩) 2 2) [m.cnt, m.nxt] (w6.alloc (.cells #[.int .u64 m.cnt, .int .u64 m.nxt] 22)) (reads_of_owns (World.ownsRow_lit (base := 0) (e := 22) (size := 1) w6 #[.int .u64 m.cnt, .int .u64 m.nxt] 2 (Nat.zero_le _) (by unfold maxLen; omega) rfl)) (by simp) (by intro x hx; simp only [List.mem_cons, List.not_mem_nil, or_false] at hx; rcases hx with rfl | rfl; exact HN.out.2.1; exact HN.out.2.2)))
  have M7 := Lib.hid (fun X q c w (hX : X = [m.cnt, m.nxt].map numI) (r : RowF (w6.alloc (.cells #[.int .u64 m.cnt, .int .u64 m.nxt] 22)) w (.slice q X.length c) X) => (show ∃ Y q' c' w', RowKit.Hid (Y = F6 ++ X) ∧ (Builtin.append_ #[28, 28] 28 #[.slice q6 F6.length c6, .slice q X.length c]).run Try.prog w = .ok (.slice q' Y.length c') w' ∧ RowF W w' (.slice q' Y.length c') Y ∧ MBox w' W.heap.size m from by
    have b := below_then (below1 w6 (.cells #[.int .u64 m.cnt, .int .u64 m.nxt] 22)) r.below
    obtain ⟨Y, q', c', w', eY, hr, rr, ht⟩ := (R6.out.next b).app (FAt.of r.own) (by rw [L6.out, hX]; simp) 28
    exact ⟨Y, q', c', w', eY, hr, rr, MBox.app (X6.out.next b) (R6.out.next b).own ht⟩))
  go_upto_region 7 with (first | (with_reducible refine wpList_load_by rfl rfl (MBox.load_cnt X6.out) rfl ?_) | (with_reducible refine wpList_load_by rfl rfl (MBox.load_nxt X6.out) rfl ?_) | (go_at_call 19; (with_reducible refine N7.out.mono ?_); rintro e w7 ⟨_, rfl, F7, q7, c7, E7, rfl, r7⟩; obtain ⟨F8, q8, c8, w8, E8, hr8, r8, x8⟩ := M7.out F7 q7 c7 w7 E7.out r7; have HR8 := Lib.hid hr8; have R8 := Lib.hid r8; have X8 := Lib.hid x8; clear hr8 r8 x8 r7) | (at_builtin; (refine wpList_append_run rfl _ _ 28 rfl _ _ _ rfl rfl _ HR8.out ?_)) | fail)
  clear M7 N7 HR8 R6 X6
  have L8 := Lib.hid (show F8.length = 73 by rw [E8.out, List.length_append, L6.out, E7.out]; rfl)
  obtain ⟨F9, q9, c9, w9, E9, hr9, r9, _⟩ := R8.out.app (KF.out w8 R8.out.below) (by rw [L8.out]; have := HF.out; omega) 28
  rw [HW.out] at hr9
  have HR9 := Lib.hid hr9
  have P9 := Lib.hid (pack_any (.slice q9 F9.length c9) F9 w9 (FAt.of r9.own) (by rw [E9.out, List.length_append, L8.out]; have := HF.out; omega))
  have EH := Lib.hid (show F9 = headF m p by rw [E9.out, E8.out, E7.out, E6.out, E4.out]; rfl)
  have LF := Lib.hid (show (Instr.loadAt 28 (.pointer (some ⟨W.heap.size, 61, none⟩))).run Try.prog w8 = .ok (.slice m.b.fp p.F.length m.b.fc) w8 from by rw [← HW.out]; exact MBox.load_fr X8.out)
  have B9 := Lib.hid r9.below
  clear hr9 r9
  unfold PackR at P9
  cases hk : pkOk F9 with
  | true =>
    rw [hk] at P9
    have HK := Lib.hid hk
    clear hk
    go_wp2_with (first | (with_reducible refine wpList_load_by rfl rfl LF.out rfl ?_) | (at_builtin; (refine wpList_append_run rfl _ _ 28 rfl _ _ _ rfl rfl _ HR9.out ?_)) | (go_at_call 11; (with_reducible refine P9.out.mono ?_); rintro e w10 ⟨rfl, k10⟩) | fail)
    go_ret2
    refine ⟨?_, below_then B9.out k10⟩
    rw [HE.out, ← EH.out, HK.out]
    rfl
  | false =>
    rw [hk] at P9
    have HK := Lib.hid hk
    clear hk
    go_wp2_with (first | (with_reducible refine wpList_load_by rfl rfl LF.out rfl ?_) | (at_builtin; (refine wpList_append_run rfl _ _ 28 rfl _ _ _ rfl rfl _ HR9.out ?_)) | (go_at_call 11; (with_reducible refine P9.out.mono ?_); rintro e w10 ⟨rfl, k10⟩) | fail)
    go_ret2
    refine ⟨?_, below_then B9.out k10⟩
    rw [HE.out, ← EH.out, HK.out]
    rfl
theorem head_any (m : Mc) (p : Pt) (W : World) (K : MR W m p) (N : NOk m) : Calls Try.prog 10 #[mcV m] W fun e W' => e = .returned (headV m p) ∧ Below W.heap.size W W' := by
  by_cases h : chkM m p = 0
  · exact head_yes m p W K N h
  · exact head_no m p W K h
end Go.Proofs.Ytgflnfmnjlmenaa
