/- ImageUnlike's walk, where the machine may be. -/
import Derived.Test.YtgflnfmnjlmenaaYQP
namespace Go.Proofs.Ytgflnfmnjlmenaa
open Go.RowKit Go.Deep Go.Joins
set_option maxRecDepth 100000
set_option maxHeartbeats 16000000 in
theorem unlike_yes (m : Mc) (p : Pt) (k v : Int) (W : World) (K : MR W m p) (N : NOk m) (h : chkM m p = 0) (hE : m.E < 4611686018427387904) (hE0 : 0 ≤ m.E) (hk : 0 ≤ k ∧ k < 18446744073709551616) (hv : 0 ≤ v ∧ v < 18446744073709551616) (hF : p.F.length ≤ 8796093022208) (hD : p.D.length ≤ 140737488351232) (hM : p.M.length ≤ 17592186043904) (hO : (p.O.length + 1) * 32 ≤ 140737488355328) : Calls Try.prog 4 #[mcV m, .int .u64 k, .int .u64 v] W fun e W' => e = .returned (.bool true) ∧ Below W.heap.size W W' := by
  have X := Lib.hid (MBox.new W m)
  have B := Lib.hid (below1 W (mcO m))
  have C := Lib.hid (fun w' (hb : Below W.heap.size W w') => bytes_ok (K.next hb) N (ok_all h).2.1)
  have CC := Lib.hid (fun w' (hb : Below W.heap.size W w') => rmcopy_any m p w' (K.next hb) hF hD hM (by omega))
  have HK := Lib.hid (And.intro K (And.intro N (And.intro h (And.intro hE0 (And.intro hk (And.intro hv hO))))))
  clear K N h hF hD hM hO hk hv
  generalize hb : bytesB m p = b at C
  have HB := Lib.hid hb
  clear hb
  go_enter Try.func4, Try.ntmps4
  go_upto_region 1 with fail
  generalize W.alloc (mcO m) = wa at X B ⊢
  go_upto_region 6 with (first | (go_at_call 5; (with_reducible refine (awake_any _).mono ?_); rintro e wb ⟨rfl, kk⟩; have X1 := Lib.hid (X.out.next kk); have B1 := Lib.hid (below_then B.out kk); clear kk) | (with_reducible refine wpList_load_by rfl rfl (MBox.load X1.out) rfl ?_) | (go_at_call 6; (with_reducible refine (C.out _ B1.out).mono ?_); rintro e wc ⟨rfl, kk⟩; have X2 := Lib.hid (X1.out.next kk); have B2 := Lib.hid (below_then B1.out kk); clear kk) | fail)
  clear X B X1 B1 C
  have ge : decide (4611686018427387904 ≤ m.E) = false := decide_eq_false (by omega)
  go_upto_region 8 with (first | (with_reducible refine wpList_load_by rfl rfl (MBox.load_E X2.out) rfl ?_) | fail)
  clear ge
  have CW := Lib.hid (CC.out wc B2.out)
  go_upto_region 9 with (first | (with_reducible refine wpList_load_by rfl rfl (MBox.load X2.out) rfl ?_) | (go_at_call 8; (with_reducible refine CW.out.mono ?_); rintro e wd ⟨q, c, dv, mv, ov, rfl, hf, hd, hm, ho, kk⟩; obtain ⟨n, hn⟩ : ∃ n : Mc, n = { m with b := m.b.at q p.F.length c, dv := dv, mv := mv, ov := ov } := ⟨_, rfl⟩; rw [← hn]; have Z := Lib.hid (show Cp wc ((wd.alloc (.cells zc42 42)).setRow wd.heap.size (mcC n)) wd.heap.size n p from Cp.new kk (by rw [hn]; exact hf) (by rw [hn]; exact hd) (by rw [hn]; exact hm) (by rw [hn]; exact ho)); have HN := Lib.hid hn; have N1 := Lib.hid (show Mc1 n from by rw [hn]; exact ⟨one_t hd, one_t hm, one_t ho⟩); have ZR := Lib.hid (show (wd.alloc (.cells zc42 42)).heap[wd.heap.size]? = some (.cells zc42 42 (0, 0)) from heap_alloc_last wd _); clear hn hf hd hm ho kk) | (with_reducible refine wpList_store_by rfl rfl (MBox.store n N1.out ZR.out (by kernel_rfl)) rfl rfl ?_) | fail)
  clear CW N1 ZR
  generalize wd.heap.size = z at *
  generalize (wd.alloc (.cells zc42 42)).setRow z (mcC n) = w8 at Z ⊢
  have BX := Lib.hid Z.out.ms.box
  obtain ⟨q9, c9, w9, hr9, x9, z9⟩ := Z.out.more (7, 0, ⟨#[]⟩) HK.out.2.2.2.2.2.2 40
  have HR9 := Lib.hid hr9
  have X9 := Lib.hid x9
  have Z9 := Lib.hid z9
  clear hr9 x9 z9 Z
  go_upto_region 10 with (first | (with_reducible refine wpList_load_by rfl rfl (MBox.load_o BX.out) rfl ?_) | (at_builtin; (refine wpList_append_run rfl _ _ 40 rfl _ _ _ rfl rfl _ HR9.out ?_)) | (with_reducible refine wpList_store_by rfl rfl (MBox.store_o X9.out q9 (p.O.length + 1) c9) rfl rfl ?_) | fail)
  obtain ⟨n1, hn1⟩ : ∃ n1 : Mc, n1 = { n with ov := .slice q9 (p.O.length + 1) c9 } := ⟨_, rfl⟩
  rw [← hn1] at Z9 ⊢
  generalize w9.setRow z (mcC n1) = wa at Z9 ⊢
  have LE := Lib.hid (fun w (hw : MBox w z n1) => show (Instr.loadAt 22 (.pointer (some ⟨z, 75, none⟩))).run Try.prog w = .ok (.int .u64 m.E) w from by rw [show m.E = n1.E from by rw [hn1, HN.out]]; exact MBox.load_E hw)
  have HN1 := Lib.hid hn1
  have BX := Lib.hid Z9.out.ms.box
  clear HR9 X9 hn1
  go_upto_region 11 with (first | (with_reducible refine wpList_load_by rfl rfl (LE.out _ BX.out) rfl ?_) | (with_reducible refine wpList_store_by rfl rfl (MBox.store_E BX.out (m.E + 1)) rfl rfl ?_) | fail)
  obtain ⟨M1, M2, M3⟩ := chk_parts (chk_zero HK.out.2.2.1).1
  have Z11 := Lib.hid (Z9.out.put { n1 with E := m.E + 1 } rfl rfl rfl rfl)
  obtain ⟨n2, hn2⟩ : ∃ n2 : Mc, n2 = { n1 with E := m.E + 1 } := ⟨_, rfl⟩
  rw [← hn2] at Z11 ⊢
  generalize wa.setRow z (mcC n2) = we at Z11 ⊢
  have LE2 := Lib.hid (fun w (hw : MBox w z n2) => show (Instr.loadAt 22 (.pointer (some ⟨z, 75, none⟩))).run Try.prog w = .ok (.int .u64 (m.E + 1)) w from by rw [show m.E + 1 = n2.E from by rw [hn2]]; exact MBox.load_E hw)
  have HN2 := Lib.hid hn2
  clear LE BX Z9 hn2
  obtain ⟨j, hj⟩ : ∃ j : Nat, k % (p.M.length : Int) = (j : Int) := ⟨_, (Int.toNat_of_nonneg (Int.emod_nonneg _ (by omega))).symm⟩
  have hj1 : k % (p.M.length : Int) < (p.M.length : Int) := Int.emod_lt_of_pos _ (by omega)
  have ew : IntKind.u64.wrap (p.M.length : Int) = (p.M.length : Int) := by rw [IntKind.wrap_u64]; omega
  have ej : k.tmod (p.M.length : Int) = (j : Int) := by rw [Int.tmod_eq_emod_of_nonneg HK.out.2.2.2.2.1.1, hj]
  have wj : IntKind.i64.wrap (j : Int) = (j : Int) := by rw [IntKind.wrap_i64]; omega
  rw [hj] at hj1
  have HJ := Lib.hid (And.intro ew (And.intro ej wj))
  clear ew ej wj hj
  refine dr (fun w => MBox w z n2) fun wz hzz => ?_
  have Z12 := Lib.hid (Z11.out.next hzz)
  have hS := Z12.out.ms.box
  obtain ⟨h11, cap11, cur11, em, hr11, z11⟩ := Z12.out.mark (j := j) (by show _ < p.M.length; omega) (m.E + 1)
  have HR11 := Lib.hid hr11
  have Z13 := Lib.hid z11
  have EM := Lib.hid em
  clear hzz hr11 z11 em
  refine tk 0 hS ?_
  refine tk 1 hS ?_
  refine tl 2 hS (fun w hw => MBox.load_mv' hw EM.out) ?_
  refine tk 3 hS ?_
  refine tk 4 hS ?_
  refine tk 5 hS ?_
  refine tl 6 hS (fun w hw => MBox.load_mv' hw EM.out) ?_
  refine tk 7 hS ?_
  refine tk 8 hS ?_
  refine tk 9 (v := .int .u64 (j : Int)) hS ?_ (hy := Or.inl ⟨by rfl, fun w hw => by go_simp; rw [HJ.out.1, if_neg (by omega), HJ.out.2.1]⟩)
  refine tk 10 (v := .int .i64 (j : Int)) hS ?_ (hy := Or.inl ⟨by rfl, fun w hw => by go_simp; rw [HJ.out.2.2]⟩)
  refine tk 11 hS ?_
  refine tk 12 hS ?_
  refine tl 13 hS (fun w hw => LE2.out w hw) ?_
  refine tk 14 (v := .pointer (some ⟨h11, j, none⟩)) hS ?_
  refine hs 15 (w' := wz.setRow h11 cur11) HR11.out (fun wy hwy => ⟨?_, fun hS1 => ?_⟩)
  · subst hwy
    exact Z13.out.ms.box
  subst hwy
  refine wpAnyH_done (by kernel_rfl) ?_ _
  obtain ⟨p13, hp13⟩ : ∃ p13 : Pt, p13 = ⟨p.F, p.D, p.M.set j (m.E + 1), p.O ++ [(7, 0, ⟨#[]⟩)]⟩ := ⟨_, rfl⟩
  have Z13 := Lib.hid (show Cp wc (wz.setRow h11 cur11) z n2 p13 from by rw [hp13]; exact Z13.out)
  generalize wz.setRow h11 cur11 = wf at Z13 ⊢
  have F2 := Lib.hid (show n2.h = m.h ∧ n2.b = m.b.at q p.F.length c ∧ n2.cnt = m.cnt ∧ n2.nxt = m.nxt ∧ n2.E = m.E + 1 from by rw [HN2.out, HN1.out, HN.out]; exact ⟨rfl, rfl, rfl, rfl, rfl⟩)
  have N2 := Lib.hid (show NOk n2 from by
    refine ⟨?_, by rw [F2.out.2.2.1]; exact HK.out.2.1.2.1, by rw [F2.out.2.2.2.1]; exact HK.out.2.1.2.2⟩
    rw [F2.out.1, F2.out.2.1]
    exact HK.out.2.1.1)
  have KI := Lib.hid (show Kin m n2 p p13 from by
    refine ⟨by rw [F2.out.1]; exact (chk_zero HK.out.2.2.1).2.1, by rw [F2.out.2.1]; rfl, by rw [F2.out.2.1]; rfl, by rw [F2.out.2.1]; rfl, by rw [hp13], by rw [hp13], by rw [hp13]; exact List.length_set, ?_⟩
    rw [F2.out.2.2.2.2, hp13]
    intro x hx
    rcases List.mem_or_eq_of_mem_set hx with hx | rfl
    · have := chk_le (chk_zero HK.out.2.2.1).1 x hx
      omega
    · exact Int.le_refl _)
  have BS := Lib.hid (bytes_same HK.out.2.2.1 KI.out (by rw [F2.out.1]) (by rw [F2.out.2.1]; rfl) F2.out.2.2.1 F2.out.2.2.2.1 (by rw [hp13]))
  have C12 := Lib.hid (show Calls Try.prog 6 #[mcV n2] wf (fun e w => e = .returned (.tuple #[.string b, .int .i64 0]) ∧ Below wf.heap.size wf w) from by rw [← HB.out, ← BS.out.2]; exact bytes_ok Z13.out.ms.rd N2.out BS.out.1)
  have HP := Lib.hid hp13
  have BX := Lib.hid Z13.out.ms.box
  clear hS hS1 HR11 Z11 Z12 EM HJ hj1 hp13 LE2
  go_upto_region 13 with (first | (with_reducible refine wpList_load_by rfl rfl (MBox.load BX.out) rfl ?_) | (go_at_call 6; (with_reducible refine C12.out.mono ?_); rintro e wg ⟨rfl, kk⟩; have Z14 := Lib.hid (Z13.out.next kk); clear kk) | fail)
  have hse := str_eq b
  clear BX C12 BS Z13
  obtain ⟨i, hi⟩ : ∃ i : Nat, k % 31 = (i : Int) := ⟨_, (Int.toNat_of_nonneg (Int.emod_nonneg _ (by omega))).symm⟩
  have hi1 : i < 31 := by omega
  have ei : k.tmod 31 = (i : Int) := by rw [Int.tmod_eq_emod_of_nonneg HK.out.2.2.2.2.1.1, hi]
  have HI := Lib.hid hi
  clear hi
  go_upto_region 16 with fail
  obtain ⟨n4, hn4⟩ : ∃ n4 : Mc, n4 = setX n2 (i + 1) v := ⟨_, rfl⟩
  have BX := Lib.hid Z14.out.ms.box
  have Z16 := Lib.hid (Z14.out.put n4 (by rw [hn4]; rfl) (by rw [hn4]; rfl) (by rw [hn4]; rfl) (by rw [hn4]; rfl))
  have SX := Lib.hid (show (Instr.storeAt 22 (.pointer (some ⟨z, i + 1, none⟩)) (.int .u64 v)).run Try.prog wg = .ok () (wg.setRow z (mcC n4)) from MBox.store_x BX.out (by omega) v n4 (by rw [hn4]; rfl) (by rw [hn4]; rfl) (by rw [hn4]; rfl) (by rw [hn4]; rfl))
  have HN4 := Lib.hid hn4
  have ei2 : (1 + (i : Int)).toNat = i + 1 := by omega
  clear hn4 hse ei
  go_upto_region 17 with (first | (with_reducible refine wpList_store_by rfl rfl SX.out rfl rfl ?_) | fail)
  generalize wg.setRow z (mcC n4) = wh at Z16 ⊢
  have F4 := Lib.hid (show n4.h = (setX m (i + 1) v).h ∧ n4.b = m.b.at q p.F.length c ∧ n4.cnt = m.cnt ∧ n4.nxt = m.nxt ∧ n4.E = m.E + 1 from by rw [HN4.out]; exact ⟨setX_h F2.out.1 _ _, F2.out.2⟩)
  have N4 := Lib.hid (show NOk n4 from by rw [HN4.out]; exact setX_nok N2.out HK.out.2.2.2.2.2.1)
  have KI4 := Lib.hid (show Kin m n4 p p13 from by
    refine ⟨by rw [F4.out.1]; exact right_setX (chk_zero HK.out.2.2.1).2.1 i v, by rw [F4.out.2.1]; rfl, by rw [F4.out.2.1]; rfl, by rw [F4.out.2.1]; rfl, by rw [HP.out], by rw [HP.out], by rw [HP.out]; exact List.length_set, ?_⟩
    rw [F4.out.2.2.2.2, ← F2.out.2.2.2.2]
    exact KI.out.me)
  have BR := Lib.hid (bytes_reg HK.out.2.1 HK.out.2.2.1 KI4.out hi1 HK.out.2.2.2.2.2.1 F4.out.1 (by rw [F4.out.2.1]; rfl) F4.out.2.2.1 F4.out.2.2.2.1 (by rw [HP.out]))
  obtain ⟨b4, hb4⟩ : ∃ b4, b4 = bytesB n4 p13 := ⟨_, rfl⟩
  have C17 := Lib.hid (show Calls Try.prog 6 #[mcV n4] wh (fun e w => e = .returned (.tuple #[.string b4, .int .i64 0]) ∧ Below wh.heap.size wh w) from by rw [hb4]; exact bytes_ok Z16.out.ms.rd N4.out BR.out.1)
  have BX := Lib.hid Z16.out.ms.box
  obtain ⟨t, ht⟩ : ∃ t : Bool, t = decide (v = m.h.x.getD (i + 1) 0) := ⟨_, rfl⟩
  have e1 : (b.toList == b4.toList) = t := by rw [str_dec, ht, ← HB.out, hb4]; exact decide_eq_decide.2 BR.out.2
  have e2 : (v == m.h.x.getD (i + 1) 0) = t := by rw [ht, Bool.eq_iff_iff]; simp
  have e3 : (t != t) = false := by cases t <;> rfl
  have E12 := Lib.hid (And.intro e1 (And.intro e2 e3))
  clear Z14 SX N2 KI N4 KI4 BR hb4 ht e1 e2 e3
  go_upto_region 18 with (first | (with_reducible refine wpList_load_by rfl rfl (MBox.load BX.out) rfl ?_) | (go_at_call 6; (with_reducible refine C17.out.mono ?_); rintro e wi ⟨rfl, kk⟩; have Z17 := Lib.hid (Z16.out.next kk); clear kk) | fail)
  clear BX C17 Z16
  have e1 := E12.out.1
  have e2 := E12.out.2.1
  have e3 := E12.out.2.2
  have m_x : wi.cell? ⟨W.heap.size, i + 1, none⟩ = some (.int .u64 (m.h.x.getD (i + 1) 0)) := MBox.cell_x (X2.out.next Z17.out.hb) (by omega)
  generalize m.h.x.getD (i + 1) 0 = xv at e2 m_x
  clear E12
  go_upto_region 20 with fail
  clear e1 e2 e3 m_x
  have CW := Lib.hid (CC.out wi (below_then B2.out Z17.out.hb))
  have X5 := Lib.hid (X2.out.next Z17.out.hb)
  go_upto_region 21 with (first | (with_reducible refine wpList_load_by rfl rfl (MBox.load X5.out) rfl ?_) | (go_at_call 8; (with_reducible refine CW.out.mono ?_); rintro e wj ⟨q5, c5, dv5, mv5, ov5, rfl, hf, hd, hm, ho, kk⟩; obtain ⟨n5, hn⟩ : ∃ n5 : Mc, n5 = { m with b := m.b.at q5 p.F.length c5, dv := dv5, mv := mv5, ov := ov5 } := ⟨_, rfl⟩; rw [← hn]; have Z20 := Lib.hid (show Cp wc (wj.setRow z (mcC n5)) z n5 p from Z17.out.lay kk (by rw [hn]; exact hf) (by rw [hn]; exact hd) (by rw [hn]; exact hm) (by rw [hn]; exact ho)); have HN5 := Lib.hid hn; have N1 := Lib.hid (show Mc1 n5 from by rw [hn]; exact ⟨one_t hd, one_t hm, one_t ho⟩); have ZR := Lib.hid (show wj.heap[z]? = some (.cells (mcC n4) 42 (0, 0)) from (Z17.out.next kk).ms.box); clear hn hf hd hm ho kk) | (with_reducible refine wpList_store_by rfl rfl (MBox.store n5 N1.out ZR.out (mcC_size _)) rfl rfl ?_) | fail)
  clear CW X5 Z17 N1 ZR CC
  generalize wj.setRow z (mcC n5) = wl at Z20 ⊢
  have D1 : 1 ≤ p.D.length := by omega
  have D2 : p.D.length ≤ 65536 := by omega
  clear M1 M2 M3
  obtain ⟨j5, hj5⟩ : ∃ j5 : Nat, k % (p.D.length : Int) = (j5 : Int) := ⟨_, (Int.toNat_of_nonneg (Int.emod_nonneg _ (by omega))).symm⟩
  have hjl : k % (p.D.length : Int) < (p.D.length : Int) := Int.emod_lt_of_pos _ (by omega)
  rw [hj5] at hjl
  have ew : IntKind.u64.wrap (p.D.length : Int) = (p.D.length : Int) := by rw [IntKind.wrap_u64]; omega
  have ej : k.tmod (p.D.length : Int) = (j5 : Int) := by rw [Int.tmod_eq_emod_of_nonneg HK.out.2.2.2.2.1.1, hj5]
  have hjn : j5 < p.D.length := by omega
  obtain ⟨bv, ev⟩ := byte_of v
  obtain ⟨h22, cap22, cur22, em, mc22, hr22, z22⟩ := Z20.out.byte hjn (p.D[j5] ^^^ bv)
  have ex := xor_u8 p.D[j5] bv
  have HR22 := Lib.hid hr22
  have Z22 := Lib.hid z22
  have BX := Lib.hid Z20.out.ms.box
  have LD := Lib.hid (show (Instr.loadAt 36 (.pointer (some ⟨z, 73, none⟩))).run Try.prog wl = .ok (.slice (some ⟨h22, 0, none⟩) p.D.length cap22) wl from MBox.load_dv' BX.out em)
  obtain ⟨D22, hD22⟩ : ∃ D22 : List UInt8, D22 = p.D.set j5 (p.D[j5] ^^^ bv) := ⟨_, rfl⟩
  have SX := Lib.hid (hD22 ▸ set_xor hjn bv)
  have HL := Lib.hid (show D22.length = p.D.length from by rw [hD22]; exact List.length_set)
  rw [← hD22] at Z22
  have HX := Lib.hid ex
  have HV := Lib.hid ev
  have HE22 := Lib.hid hD22
  clear hD22 hr22 z22 em hj5 ex ev
  generalize p.D[j5] = d5 at mc22 HR22 HX
  generalize d5 ^^^ bv = x5 at HR22 HX
  have mc22 := mc22
  go_upto_region 22 with (first | (with_reducible refine wpList_load_by rfl rfl LD.out rfl ?_) | fail)
  clear ew ej D1 D2
  have ev := HV.out
  have ex := HX.out
  go_upto_region 23 with (first | (with_reducible refine wpList_load_by rfl rfl LD.out rfl ?_) | (with_reducible refine wpList_store_by rfl rfl HR22.out rfl rfl ?_) | fail)
  obtain ⟨p22, hp22⟩ : ∃ p22 : Pt, p22 = { p with D := D22 } := ⟨_, rfl⟩
  rw [← hp22] at Z22
  generalize wl.setRow h22 cur22 = wm at Z22 ⊢
  have F5 := Lib.hid (show n5.h = m.h ∧ n5.b = m.b.at q5 p.F.length c5 ∧ n5.cnt = m.cnt ∧ n5.nxt = m.nxt ∧ n5.E = m.E from by rw [HN5.out]; exact ⟨rfl, rfl, rfl, rfl, rfl⟩)
  have N5 := Lib.hid (show NOk n5 from by
    refine ⟨?_, by rw [F5.out.2.2.1]; exact HK.out.2.1.2.1, by rw [F5.out.2.2.2.1]; exact HK.out.2.1.2.2⟩
    rw [F5.out.1, F5.out.2.1]
    exact HK.out.2.1.1)
  have KI5 := Lib.hid (show Kin m n5 p p22 from by
    refine ⟨by rw [F5.out.1]; exact (chk_zero HK.out.2.2.1).2.1, by rw [F5.out.2.1]; rfl, by rw [F5.out.2.1]; rfl, by rw [F5.out.2.1]; rfl, by rw [hp22], by rw [hp22]; exact HL.out, by rw [hp22], ?_⟩
    rw [F5.out.2.2.2.2, hp22]
    exact chk_le (chk_zero HK.out.2.2.1).1)
  have BD := Lib.hid (bytes_dat HK.out.2.2.1 KI5.out (by rw [F5.out.1]) (by rw [F5.out.2.1]; rfl) F5.out.2.2.1 F5.out.2.2.2.1)
  obtain ⟨b5, hb5⟩ : ∃ b5, b5 = bytesB n5 p22 := ⟨_, rfl⟩
  have C23 := Lib.hid (show Calls Try.prog 6 #[mcV n5] wm (fun e w => e = .returned (.tuple #[.string b5, .int .i64 0]) ∧ Below wm.heap.size wm w) from by rw [hb5]; exact bytes_ok Z22.out.ms.rd N5.out BD.out.1)
  have BX := Lib.hid Z22.out.ms.box
  have hbd : (b = b5 ↔ bv = 0) := by
    have h1 := BD.out.2
    rw [HB.out, ← hb5, hp22] at h1
    exact h1.trans SX.out
  obtain ⟨t, ht⟩ : ∃ t : Bool, t = decide (bv = 0) := ⟨_, rfl⟩
  have e1 : (b.toList == b5.toList) = t := by rw [str_dec, ht]; exact decide_eq_decide.2 hbd
  have e2 : ((bv.toNat : Int) == 0) = t := by
    rw [ht, Bool.eq_iff_iff, beq_iff_eq, decide_eq_true_eq]
    exact ⟨fun h => UInt8.toNat_inj.1 (show bv.toNat = 0 by omega), fun h => by rw [h]; rfl⟩
  have e3 : (t == t) = true := beq_self_eq_true t
  have E12 := Lib.hid (And.intro e1 (And.intro e2 e3))
  clear Z20 HR22 LD SX HL HX HE22 N5 KI5 BD hb5 hp22 ht e1 e2 e3 hbd mc22 ex ev
  go_upto_region 24 with (first | (with_reducible refine wpList_load_by rfl rfl (MBox.load BX.out) rfl ?_) | (go_at_call 6; (with_reducible refine C23.out.mono ?_); rintro e wn ⟨rfl, kk⟩; have Z24 := Lib.hid (Z22.out.next kk); clear kk) | fail)
  clear BX C23 Z22
  have e1 := E12.out.1
  have e2 := E12.out.2.1
  have e3 := E12.out.2.2
  have ev := HV.out
  clear E12
  go_wp2_with fail
  go_ret
  exact ⟨rfl, below_then B2.out Z24.out.hb⟩
theorem unlike_walk (m : Mc) (p : Pt) (k v : Int) (W : World) (K : MR W m p) (N : NOk m) (hE : 0 ≤ m.E) (hk : 0 ≤ k ∧ k < 18446744073709551616) (hv : 0 ≤ v ∧ v < 18446744073709551616) (hF : p.F.length ≤ 8796093022208) (hD : p.D.length ≤ 140737488351232) (hM : p.M.length ≤ 17592186043904) (hO : (p.O.length + 1) * 32 ≤ 140737488355328) : Calls Try.prog 4 #[mcV m, .int .u64 k, .int .u64 v] W fun e W' => e = .returned (.bool true) ∧ Below W.heap.size W W' := by
  by_cases h : chkM m p = 0
  · by_cases h2 : m.E < 4611686018427387904
    · exact unlike_yes m p k v W K N h h2 hE hk hv hF hD hM hO
    · exact unlike_far m p k v W K N h (by omega)
  · exact unlike_no m p k v W K N h
end Go.Proofs.Ytgflnfmnjlmenaa
