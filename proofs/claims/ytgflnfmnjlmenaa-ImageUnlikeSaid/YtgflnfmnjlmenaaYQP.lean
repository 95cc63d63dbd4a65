/- The program is awake. ImageUnlike's walk. -/
import Derived.Test.YtgflnfmnjlmenaaYQM
import Derived.Test.YtgflnfmnjlmenaaYQN
import Derived.Test.YtgflnfmnjlmenaaYQO
namespace Go.Proofs.Ytgflnfmnjlmenaa
open Go.RowKit Go.Deep Go.Joins
set_option maxRecDepth 100000
def BackR (m : Mc) (p : Pt) (W : World) (e : Ending) (W' : World) : Prop :=
  Below W.heap.size W W' ∧ ∃ dv mv q c, e = .returned (.tuple #[mcV (joinM (headF m p) (h73 m p) dv mv q c), .int .i64 0]) ∧ dv.oneCell' = true ∧ mv.oneCell' = true ∧ ∀ w', (∀ k, W.heap.size ≤ k → k < W'.heap.size → w'.heap[k]? = W'.heap[k]?) → MR w' (joinM (headF m p) (h73 m p) dv mv q c) (joinP (headF m p) (datB p))
theorem read_back {m : Mc} {p : Pt} {W W' : World} {e : Ending} (N : NOk m) (k : PlOk m.b.pl) (h : chkM m p = 0) (r : ReadR (bytesB m p) W e W') : BackR m p W e W' := by
  have hb := back_ok N k h
  obtain ⟨r1, r2⟩ := r
  refine ⟨r1, ?_⟩
  rcases r2 with ⟨head, data, F, hF, dv, mv, q, c, r3, r4, r5, r6, r7⟩ | ⟨r3, _⟩
  · have a := r3.1
    rw [hb.1] at a
    simp only [Option.some.injEq, List.cons.injEq, and_true] at a
    obtain ⟨rfl, rfl⟩ := a
    have b := r3.2.1
    rw [hb.2.1] at b
    obtain rfl := (Option.some.inj b)
    exact ⟨dv, mv, q, c, r4, r5, r6, r7⟩
  · exact absurd hb (r3 _ _ _ _)
theorem in_all {L : List Int} (h : L.all (fun x => decide (0 ≤ x ∧ x < 18446744073709551616)) = true) : ∀ x ∈ L, In64 x := fun x hx => by
  rw [List.all_eq_true] at h
  exact of_decide_eq_true (p := 0 ≤ x ∧ x < 18446744073709551616) (h x hx)
def ab : ByteArray := ⟨#[97, 98]⟩
def p0 : Pt := ⟨[], spl (List.replicate (1 * 256) 0) 0 ab, List.replicate 1 0, []⟩
theorem new_nok0 : NOk (newMc (.slice none 0 0) (.slice none 0 0)) := ⟨in_all (by decide +kernel), ⟨by decide +kernel, by decide +kernel⟩, ⟨by decide +kernel, by decide +kernel⟩⟩
theorem new_nok (dv mv : Value) : NOk (newMc dv mv) := new_nok0
theorem new_plok0 : PlOk bdN.pl := by constructor <;> exact ⟨by decide +kernel, by decide +kernel⟩
theorem new_plok (dv mv : Value) : PlOk (newMc dv mv).b.pl := new_plok0
theorem new_chk (dv mv : Value) : chkM (newMc dv mv) p0 = 0 := by
  have hl : p0.D.length = 256 := by
    show (spl (List.replicate (1 * 256) 0) 0 ab).length = 256
    rw [spl_length _ _ _ (by rw [List.length_replicate]; decide), List.length_replicate]
  have h1 : chkB p0.D.length p0.M (newMc dv mv).E = true := by rw [hl]; show chkB 256 (List.replicate 1 0) 0 = true; decide +kernel
  have h2 : rightH awH = true := by decide +kernel
  have h3 : rightB bdN [] = true := by
    unfold rightB hasB
    rw [show bdN.sec.size = 1024 from zer_size]
    decide +kernel
  have h4 : Pc.rightF bdN.pl = true := by decide +kernel
  unfold chkM
  rw [h1]
  show (if true = false then (50 : Int) else if (rightH awH && rightB bdN [] && Pc.rightF bdN.pl) = true then 0 else 170) = 0
  rw [h2, h3, h4]
  rfl
theorem calls_back {m : Mc} {p : Pt} {W : World} (h : Calls Try.prog 7 #[.string (bytesB m p)] W (BackR m p W)) : Calls Try.prog 7 #[.string (bytesB m p)] W fun e W' => ∃ dv mv q c, e = .returned (.tuple #[mcV (joinM (headF m p) (h73 m p) dv mv q c), .int .i64 0]) ∧ Mc1 (joinM (headF m p) (h73 m p) dv mv q c) ∧ Below W.heap.size W W' ∧ ∀ w', (∀ k, W.heap.size ≤ k → k < W'.heap.size → w'.heap[k]? = W'.heap[k]?) → MR w' (joinM (headF m p) (h73 m p) dv mv q c) (joinP (headF m p) (datB p)) :=
  h.mono fun _ _ ⟨a, dv, mv, q, c, e, o1, o2, r⟩ => ⟨dv, mv, q, c, e, ⟨o1, o2, rfl⟩, a, r⟩
set_option maxHeartbeats 4000000 in
theorem awake_any (W : World) : Calls Try.prog 5 #[] W fun e W' => e = .returned (.bool true) ∧ Below W.heap.size W W' := by
  have C9 := Lib.hid (show Calls Try.prog 9 #[.string ⟨#[97, 98]⟩, .int .i64 1] W (NewM W (spl (List.replicate (1 * 256) 0) 0 ab) (List.replicate 1 0)) from rmnew_any 1 ab W (by decide) (by decide) (by decide))
  go_enter Try.func5, Try.ntmps5
  go_upto_region 2 with (first | (go_at_call 9; (with_reducible refine C9.out.mono ?_); rintro e wa ⟨dv, mv, rfl, hD, hM, kk⟩; have HD := Lib.hid hD; have HM := Lib.hid hM; have BA := Lib.hid kk; have O1 := Lib.hid (show Mc1 (newMc dv mv) from ⟨one_t hD, one_t hM, rfl⟩); clear hD hM kk; have Z1 := Lib.hid (show (wa.alloc (.cells zc42 42)).heap[wa.heap.size]? = some (.cells zc42 42 (0, 0)) from heap_alloc_last wa _)) | (with_reducible refine wpList_store_by rfl rfl (MBox.store (newMc dv mv) O1.out Z1.out (by kernel_rfl)) rfl rfl ?_) | fail)
  have X2 := Lib.hid (show MBox ((wa.alloc (.cells zc42 42)).setRow wa.heap.size (mcC (newMc dv mv))) wa.heap.size (newMc dv mv) from setRow_heap (wa.alloc (.cells zc42 42)) wa.heap.size _ (mcC (newMc dv mv)) 42 (0, 0) Z1.out)
  have B2 := Lib.hid (below_setRow (below_then BA.out (below1 wa (.cells zc42 42))) BA.out.size (mcC (newMc dv mv)))
  have R2 := Lib.hid (show MR ((wa.alloc (.cells zc42 42)).setRow wa.heap.size (mcC (newMc dv mv))) (newMc dv mv) p0 from ⟨⟨rfl, .inl ⟨rfl, rfl⟩⟩, OwnD.at (owns_over (owns_below HD.out (below1 wa _)) Z1.out (by decide) _), OwnM.at (owns_over (owns_below HM.out (below1 wa _)) Z1.out (by decide) _), ⟨rfl, .inl ⟨rfl, rfl⟩⟩⟩)
  clear HD HM Z1 BA C9 O1
  generalize wa.heap.size = z at *
  generalize (wa.alloc (.cells zc42 42)).setRow z (mcC (newMc dv mv)) = wb at X2 B2 R2 ⊢
  have hk := new_chk dv mv
  have C6 := bytes_m (newMc dv mv) p0 wb R2.out (new_nok dv mv)
  unfold BytesR at C6
  rw [(ok_all hk).2.1] at C6
  simp only [if_true] at C6
  have C6 := Lib.hid C6
  have hlen := (ok_all hk).2.2
  have hle : (bytesB (newMc dv mv) p0).size ≤ 9223372036854775807 := by
    obtain ⟨hh, _⟩ := pack_unpack (back_ok (new_nok dv mv) (new_plok dv mv) hk).1
    have hk2 := (pack_unpack (back_ok (new_nok dv mv) (new_plok dv mv) hk).1).2
    unfold pkOk at hk2
    simp only [Bool.and_eq_true, decide_eq_true_eq] at hk2
    rw [← hh, packB_size]
    omega
  have C7 := Lib.hid (fun w => calls_back ((read_m (bytesB (newMc dv mv) p0) w hle).mono fun e w' r => read_back (new_nok dv mv) (new_plok dv mv) hk r))
  have EH := Lib.hid (fun dv' mv' q c => (join_h (p := p0) (new_nok dv mv) hk dv' mv' q c).trans (show (newMc dv mv).h = awH from rfl))
  generalize joinP (headF (newMc dv mv) p0) (datB p0) = pp at C7
  generalize bytesB (newMc dv mv) p0 = s at C6 C7 hlen hle
  generalize joinM (headF (newMc dv mv) p0) (h73 (newMc dv mv) p0) = JM at C7 EH
  have hl2 : (1700 : Int) < (s.size : Int) := by omega
  clear hk R2
  go_upto_region 3 with (first | (with_reducible refine wpList_load_by rfl rfl (MBox.load X2.out) rfl ?_) | (go_at_call 6; (with_reducible refine C6.out.mono ?_); rintro e wc ⟨rfl, kk⟩; have B3 := Lib.hid (below_then B2.out kk)) | fail)
  clear C6
  go_upto_region 4 with (first | (go_at_call 7; (with_reducible refine (C7.out _).mono ?_); rintro e wd ⟨dv', mv', q, c, rfl, m1, kk, _⟩; have B4 := Lib.hid (below_then B3.out kk); have M1 := Lib.hid m1; have EM := Lib.hid (EH.out dv' mv' q c); clear m1 kk; have Z4 := Lib.hid (show (wd.alloc (.cells zc42 42)).heap[wd.heap.size]? = some (.cells zc42 42 (0, 0)) from heap_alloc_last wd _)) | (with_reducible refine wpList_store_by rfl rfl (MBox.store (JM dv' mv' q c) M1.out Z4.out (by kernel_rfl)) rfl rfl ?_) | fail)
  have X5 : MBox ((wd.alloc (.cells zc42 42)).setRow wd.heap.size (mcC (JM dv' mv' q c))) wd.heap.size (JM dv' mv' q c) := setRow_heap _ _ _ _ 42 (0, 0) Z4.out
  have B5 := Lib.hid (below_setRow (below_then B4.out (below1 wd (.cells zc42 42))) B4.out.size (mcC (JM dv' mv' q c)))
  have m_pc := (cell_of_row _ wd.heap.size 32 _ 42 (0, 0) X5).trans ((mcC_h _ 32 (by decide)).trans (hartC_tail (JM dv' mv' q c).h 0))
  have m_mode := (cell_of_row _ wd.heap.size 33 _ 42 (0, 0) X5).trans ((mcC_h _ 33 (by decide)).trans (hartC_tail (JM dv' mv' q c).h 1))
  rw [EM.out] at m_pc m_mode
  change _ = some (Value.int .u64 2147483648) at m_pc
  change _ = some (Value.int .i64 3) at m_mode
  clear X5 Z4 M1 EM EH C7
  generalize wd.heap.size = z4 at *
  generalize (wd.alloc (.cells zc42 42)).setRow z4 (mcC (JM dv' mv' q c)) = we at *
  go_wp2_with fail
  go_ret
  exact ⟨rfl, B5.out⟩
end Go.Proofs.Ytgflnfmnjlmenaa
namespace Go.Proofs.Ytgflnfmnjlmenaa
open Go.RowKit Go.Deep Go.Joins
set_option maxRecDepth 100000
theorem str_dec (a b : ByteArray) : (a.toList == b.toList) = decide (a = b) := by
  rw [ByteArray.toList_eq, ByteArray.toList_eq]
  by_cases h : a = b
  · subst h; simp
  · rw [decide_eq_false h, beq_eq_false_iff_ne]
    intro e
    exact h (by cases a; cases b; simp at e; simp [e])
theorem bytes_ok {m : Mc} {p : Pt} {w : World} (K : MR w m p) (N : NOk m) (h : okB m p = true) : Calls Try.prog 6 #[mcV m] w fun e w' => e = .returned (.tuple #[.string (bytesB m p), .int .i64 0]) ∧ Below w.heap.size w w' :=
  (bytes_m m p w K N).mono fun e w r => by
    unfold BytesR at r
    rw [h] at r
    simp only [if_true] at r
    exact r
set_option maxHeartbeats 8000000 in
theorem unlike_no (m : Mc) (p : Pt) (k v : Int) (W : World) (K : MR W m p) (N : NOk m) (h : chkM m p ≠ 0) : Calls Try.prog 4 #[mcV m, .int .u64 k, .int .u64 v] W fun e W' => e = .returned (.bool true) ∧ Below W.heap.size W W' := by
  have X := Lib.hid (MBox.new W m)
  have B := Lib.hid (below1 W (mcO m))
  have C := Lib.hid (fun w' (hb : Below W.heap.size W w') => show Calls Try.prog 6 #[mcV m] w' (fun e w => ∃ k : Int, k ≠ 0 ∧ e = .returned (.tuple #[.string ⟨#[]⟩, .int .i64 k]) ∧ Below w'.heap.size w' w) from (bytes_m m p w' (K.next hb) N).mono fun e w r => by
    unfold BytesR at r
    rw [ok_iff, decide_eq_false h] at r
    simp only [Bool.false_eq_true, if_false] at r
    obtain ⟨⟨k, h1, h2⟩, h3⟩ := r
    exact ⟨k, h1, h2, h3⟩)
  clear K N h
  go_enter Try.func4, Try.ntmps4
  go_upto_region 1 with fail
  generalize W.alloc (mcO m) = wa at X B ⊢
  go_upto_region 4 with (first | (go_at_call 5; (with_reducible refine (awake_any _).mono ?_); rintro e wb ⟨rfl, kk⟩; have X1 := Lib.hid (X.out.next kk); have B1 := Lib.hid (below_then B.out kk); clear kk) | (with_reducible refine wpList_load_by rfl rfl (MBox.load X1.out) rfl ?_) | (go_at_call 6; (with_reducible refine (C.out _ B1.out).mono ?_); rintro e wc ⟨k0, hk0, rfl, kk⟩; have B2 := Lib.hid (below_then B1.out kk); clear kk) | fail)
  have hk1 : (k0 != 0) = true := by rw [bne_iff_ne]; exact hk0
  clear hk0 X X1 B1 B C
  go_wp2_with fail
  go_ret
  exact ⟨rfl, B2.out⟩
set_option maxHeartbeats 8000000 in
theorem unlike_far (m : Mc) (p : Pt) (k v : Int) (W : World) (K : MR W m p) (N : NOk m) (h : chkM m p = 0) (hE : 4611686018427387904 ≤ m.E) : Calls Try.prog 4 #[mcV m, .int .u64 k, .int .u64 v] W fun e W' => e = .returned (.bool true) ∧ Below W.heap.size W W' := by
  have X := Lib.hid (MBox.new W m)
  have B := Lib.hid (below1 W (mcO m))
  have C := Lib.hid (fun w' (hb : Below W.heap.size W w') => bytes_ok (K.next hb) N (ok_all h).2.1)
  clear K N h
  generalize bytesB m p = b at C
  go_enter Try.func4, Try.ntmps4
  go_upto_region 1 with fail
  generalize W.alloc (mcO m) = wa at X B ⊢
  go_upto_region 6 with (first | (go_at_call 5; (with_reducible refine (awake_any _).mono ?_); rintro e wb ⟨rfl, kk⟩; have X1 := Lib.hid (X.out.next kk); have B1 := Lib.hid (below_then B.out kk); clear kk) | (with_reducible refine wpList_load_by rfl rfl (MBox.load X1.out) rfl ?_) | (go_at_call 6; (with_reducible refine (C.out _ B1.out).mono ?_); rintro e wc ⟨rfl, kk⟩; have X2 := Lib.hid (X1.out.next kk); have B2 := Lib.hid (below_then B1.out kk); clear kk) | fail)
  clear X B X1 B1 C
  have ge : decide (4611686018427387904 ≤ m.E) = true := decide_eq_true hE
  go_wp2_with (first | (with_reducible refine wpList_load_by rfl rfl (MBox.load_E X2.out) rfl ?_) | fail)
  go_ret
  exact ⟨rfl, B2.out⟩
end Go.Proofs.Ytgflnfmnjlmenaa
