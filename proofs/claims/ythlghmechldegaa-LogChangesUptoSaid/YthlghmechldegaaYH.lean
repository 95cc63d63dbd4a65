/- LogTells' walk: what is told of any log, both sides tell the same. -/
import Derived.Test.YthlghmechldegaaYG
import Derived.Test.YthlghmechldegaaDX
namespace Go.Proofs.Ythlghmechldegaa
open Go.RowKit Go.Deep Go.Joins
set_option maxRecDepth 100000
theorem near_eload2 {w : World} {b : Nat} {e : En} (k : EBox w b e) (w' : World) (hw : ∃ p : Near w, w' = p.wx) : (Instr.loadAt 36 (.pointer (some ⟨b, 0, none⟩))).run Try.prog w' = .ok (enV e) w' := by
  obtain ⟨p, rfl⟩ := hw
  exact (k.next p.near).load
/-- A log and two entries in a function's own blocks. -/
structure Lt (W w : World) (x y : Nat) (l : Lg) (e f : En) : Prop where
  box : LBox w W.heap.size l
  e : EBox w x e
  f : EBox w y f
  below : Below W.heap.size W w
theorem told_calls {f : FuncId} {args : Array Value} {w : World} {M : List En} (h : Calls Try.prog f args w (Told w M)) : Calls Try.prog f args w fun e w' => ∃ v, e = .returned v ∧ (∃ q c, v = .slice q M.length c ∧ EAt w' (.slice q M.length c) M ∧ Below w.heap.size w w') :=
  h.mono fun _ _ ⟨q, c, h1, h2, h3⟩ => ⟨_, h1, q, c, rfl, h2, h3⟩
theorem true_calls {f : FuncId} {args : Array Value} {w : World} {v : Value} (h : Calls Try.prog f args w fun e w' => e = .returned v ∧ Below w.heap.size w w') : Calls Try.prog f args w fun e w' => ∃ u, e = .returned u ∧ (u = v ∧ Below w.heap.size w w') :=
  h.mono fun _ _ ⟨h1, h2⟩ => ⟨_, h1, rfl, h2⟩
set_option maxHeartbeats 8000000 in
theorem tells_walk (l : Lg) (L : List En) (i t most : Int) (W : World) (hl : EAt W l.lv L) (hz : ∀ e ∈ L, e.i.data.size ≤ maxLen) (h0 : 0 ≤ l.base) (hi0 : 0 ≤ i) (hi1 : i < 18446744073709551616) (hlen : L.length ≤ 1152921504606846976) (hm0 : -9223372036854775808 ≤ most) : Calls Try.prog 3 #[lgV l, .int .u64 i, .int .u64 t, .int .i64 most] W fun r W' => r = .returned (.bool true) ∧ Below W.heap.size W W' := by
  have HL := Lib.hid hl
  have HZ := Lib.hid hz
  have C0 := Lib.hid (fun W' => awake_any W')
  have C9 := Lib.hid (fun w (hw : Below W.heap.size W w) => check_any l L w (HL.out.below hw) HZ.out)
  have C10 := Lib.hid (fun w (hw : Below W.heap.size W w) => rcheck_any l L w (HL.out.below hw) HZ.out)
  clear hl hz
  generalize chkF l L = k at *
  go_enter Try.func3, Try.ntmps3
  go_upto_region 1 with (fail)
  have X := Lib.hid (Lb.start W l)
  generalize W.alloc (lgO l) = w0 at *
  have hne : Nonempty (Near w0) := ⟨⟨w0, Below.refl _ _⟩⟩
  have D9 := Lib.hid (fun (p : Near w0) => C9.out p.wx (below_then X.out.below (Nat.le_refl _) p.near))
  have D10 := Lib.hid (fun (p : Near w0) => C10.out p.wx (below_then X.out.below (Nat.le_refl _) p.near))
  refine wp_region_near (by kernel_rfl) (by kernel_rfl) ?_
  repeat (first | (go_big_quiet_want; (with_reducible refine quiet_by _ (fun w hw => exec_load (t := 27) rfl (near_lload X.out.box w hw) rfl) ?_); simp only [Act.put, List.setIfInBounds_toArray, List.set_cons_zero, List.set_cons_succ]; go_big_quiet_on) | go_big_quiet_step (first | (go_at_call 8; exact near_call (C0.out _)) | (go_at_call 9; exact near_call (D9.out _)) | (go_at_call 10; exact near_call (D10.out _)) | fail))
  refine wpQuiet_nil ?_
  rintro _ ⟨pn, rfl⟩
  have X := Lib.hid (X.out.next pn.near)
  clear hne D9 D10 C9 C10 C0
  generalize pn.wx = w1 at *
  by_cases h1 : l.base ≤ 1152921504606846976
  · have q1 : decide (1152921504606846976 < l.base) = false := decide_eq_false (by omega)
    have CL := Lib.hid (fun w (hw : Below W.heap.size W w) => last_any l L w (HL.out.below hw) h0 h1 hlen)
    have CRL := Lib.hid (fun w (hw : Below W.heap.size W w) => rlast_any l L w (HL.out.below hw) h0 h1 hlen)
    have CA := Lib.hid (fun w (hw : Below W.heap.size W w) => at_any l L i w (HL.out.below hw) h0 h1 hi0 hi1 hlen)
    have CRA := Lib.hid (fun w (hw : Below W.heap.size W w) => rat_any l L i w (HL.out.below hw) h0 h1 hi0 hi1 hlen)
    have CT := Lib.hid (fun w (hw : Below W.heap.size W w) => termat_any l L i w (HL.out.below hw) h0 h1 hi0 hi1 hlen)
    have CRT := Lib.hid (fun w (hw : Below W.heap.size W w) => rtermat_any l L i w (HL.out.below hw) h0 h1 hi0 hi1 hlen)
    have CM := Lib.hid (fun w (hw : Below W.heap.size W w) => members_any l L i w (HL.out.below hw) h0 h1 hi0 hi1 hlen)
    have CRM := Lib.hid (fun w (hw : Below W.heap.size W w) => rmembers_any l L i w (HL.out.below hw) h0 h1 hi0 hi1 hlen)
    have CN := Lib.hid (fun w (hw : Below W.heap.size W w) => newer_any l L i t w (HL.out.below hw) h0 h1 hlen)
    have CRN := Lib.hid (fun w (hw : Below W.heap.size W w) => rnewer_any l L i t w (HL.out.below hw) h0 h1 hlen)
    have CS := Lib.hid (fun w (hw : Below W.heap.size W w) (m : Int) (hm : m ≤ 600) (hmm : -9223372036854775808 ≤ m) => slice_any l L i m w (HL.out.below hw) h0 h1 hi0 hi1 hlen hm hmm)
    have CRS := Lib.hid (fun w (hw : Below W.heap.size W w) (m : Int) (hm : m ≤ 600) => rslice_any l L i m w (HL.out.below hw) h0 h1 hi0 hi1 hlen hm)
    generalize (lastV l L).1 = a1 at *
    generalize (lastV l L).2 = a2 at *
    generalize (atV l L i).1 = e at *
    generalize (atV l L i).2 = b at *
    generalize (termV l L i).1 = t1 at *
    generalize (termV l L i).2 = t2 at *
    generalize memV l L i = ms at *
    generalize newB l L i t = nb at *
    clear h0 hi0 hi1 hlen h1
    go_upto_region 8 with (first | (with_reducible refine wpList_load_by rfl rfl X.out.box.base rfl ?_) | (with_reducible refine wpList_load_by rfl rfl X.out.box.load rfl ?_) | (go_at_call 11; (with_reducible refine (CL.out _ X.out.below).mono ?_); rintro r wb ⟨rfl, kk⟩; have X := Lib.hid (X.out.next kk); clear kk) | (go_at_call 12; (with_reducible refine (CRL.out _ X.out.below).mono ?_); rintro r wb ⟨rfl, kk⟩; have X := Lib.hid (X.out.next kk); clear kk) | (go_at_call 13; (with_reducible refine (CA.out _ X.out.below).mono ?_); rintro r wc ⟨rfl, kk⟩; have X := Lib.hid (X.out.next kk); clear kk) | (with_reducible refine wpList_store_by rfl rfl (ent_new _ _) rfl rfl ?_) | fail)
    have E := Lib.hid (EBox.new wc e)
    have X := Lib.hid (X.out.next (below1 wc (enO e)))
    generalize wc.heap.size = x at *
    generalize wc.alloc (enO e) = w3 at *
    go_upto_region 9 with (first | (with_reducible refine wpList_load_by rfl rfl X.out.box.load rfl ?_) | (go_at_call 14; (with_reducible refine (CRA.out _ X.out.below).mono ?_); rintro r wd ⟨rfl, kk⟩; have X := Lib.hid (X.out.next kk); have E := Lib.hid (E.out.next kk); clear kk) | (with_reducible refine wpList_store_by rfl rfl (ent_new _ _) rfl rfl ?_) | fail)
    have F := Lib.hid (EBox.new wd e)
    have X := Lib.hid (X.out.next (below1 wd (enO e)))
    have E := Lib.hid (E.out.next (below1 wd (enO e)))
    generalize wd.heap.size = y at *
    generalize wd.alloc (enO e) = w4 at *
    go_upto_region 11 with (first | (with_reducible refine wpList_load_by rfl rfl X.out.box.load rfl ?_) | (go_at_call 15; (with_reducible refine (CT.out _ X.out.below).mono ?_); rintro r we ⟨rfl, kk⟩; have X := Lib.hid (X.out.next kk); have E := Lib.hid (E.out.next kk); have F := Lib.hid (F.out.next kk); clear kk) | (go_at_call 16; (with_reducible refine (CRT.out _ X.out.below).mono ?_); rintro r wf ⟨rfl, kk⟩; have X := Lib.hid (X.out.next kk); have E := Lib.hid (E.out.next kk); have F := Lib.hid (F.out.next kk); clear kk) | fail)
    have X := Lib.hid (Lt.mk X.out.box E.out F.out X.out.below)
    clear E F CL CRL CA CRA CT CRT
    have HQ := Lib.hid (show ∀ w : World, (Op.equalIn 10000 36 (enV e) (enV e)).run Try.prog w = .ok true w from fun w => (eq_en 9997 e e w).trans (by rw [enEq_self]))
    have HQ2 := Lib.hid (show ∀ w : World, (Op.equalIn 10000 24 (setV ms) (setV ms)).run Try.prog w = .ok true w from fun w => (eq_set 9998 ms ms w).trans (by rw [show setEq ms ms = true from by simp [setEq]]))
    try simp only [put_none]
    have hne : Nonempty (Near wf) := ⟨⟨wf, Below.refl _ _⟩⟩
    have DM := Lib.hid (fun (p : Near wf) => CM.out p.wx (below_then X.out.below (Nat.le_refl _) p.near))
    have DRM := Lib.hid (fun (p : Near wf) => CRM.out p.wx (below_then X.out.below (Nat.le_refl _) p.near))
    have DN := Lib.hid (fun (p : Near wf) => CN.out p.wx (below_then X.out.below (Nat.le_refl _) p.near))
    have DRN := Lib.hid (fun (p : Near wf) => CRN.out p.wx (below_then X.out.below (Nat.le_refl _) p.near))
    refine wp_region_near (by kernel_rfl) (by kernel_rfl) ?_
    repeat (first | (go_big_quiet_want; (with_reducible refine quiet_by _ (fun w hw => exec_load (t := 27) rfl (near_lload X.out.box w hw) rfl) ?_); simp only [Act.put, List.setIfInBounds_toArray, List.set_cons_zero, List.set_cons_succ]; go_big_quiet_on) | (go_big_quiet_want; (with_reducible refine quiet_by _ (fun w hw => exec_load (t := 36) rfl (near_eload2 X.out.e w hw) rfl) ?_); simp only [Act.put, List.setIfInBounds_toArray, List.set_cons_zero, List.set_cons_succ]; go_big_quiet_on) | (go_big_quiet_want; (with_reducible refine quiet_by _ (fun w hw => exec_load (t := 36) rfl (near_eload2 X.out.f w hw) rfl) ?_); simp only [Act.put, List.setIfInBounds_toArray, List.set_cons_zero, List.set_cons_succ]; go_big_quiet_on) | (go_big_quiet_want; (with_reducible refine quiet_by _ (fun w hw => exec_neq w rfl rfl rfl guard36 (HQ.out w)) ?_); simp only [Act.put, List.setIfInBounds_toArray, List.set_cons_zero, List.set_cons_succ]; go_big_quiet_on) | (go_big_quiet_want; (with_reducible refine quiet_by _ (fun w hw => exec_neq w rfl rfl rfl guard24 (HQ2.out w)) ?_); simp only [Act.put, List.setIfInBounds_toArray, List.set_cons_zero, List.set_cons_succ]; go_big_quiet_on) | go_big_quiet_step (first | (go_at_call 17; exact near_call (DM.out _)) | (go_at_call 18; exact near_call (DRM.out _)) | (go_at_call 19; exact near_call (DN.out _)) | (go_at_call 20; exact near_call (DRN.out _)) | fail))
    refine wpQuiet_nil ?_
    rintro _ ⟨pn, rfl⟩
    have X := Lib.hid (Lb.mk (X.out.box.next pn.near) (below_then X.out.below (Nat.le_refl _) pn.near))
    clear hne DM DRM DN DRN CM CRM CN CRN HQ HQ2
    generalize pn.wx = w7 at *
    by_cases hm : most ≤ 600
    · have q2 : decide (600 < most) = false := decide_eq_false (by omega)
      have CA := Lib.hid (fun w hw => CS.out w hw most hm hm0)
      have CB := Lib.hid (fun w hw => CRS.out w hw most hm)
      generalize slV l L i most = M at *
      clear CS CRS
      go_upto_region 15 with (fail)
      refine dr (fun w => LBox w W.heap.size l) fun w8 hzz => ?_
      have HB := Lib.hid (below_then X.out.below (Nat.le_refl _) hzz)
      have hS := X.out.box.next hzz
      clear hzz X
      refine tl 0 hS (fun w hw => LBox.load hw) ?_
      refine tk 1 hS ?_
      refine tk 2 hS ?_
      refine tl 4 hS (fun w hw => LBox.load hw) ?_
      refine tk 5 hS ?_
      refine tk 6 hS ?_
      refine hc 3 (told_calls (CA.out _ HB.out)) fun v wa hr => ?_
      obtain ⟨q1, c1, rfl, ea, ka⟩ := hr
      refine ⟨hS.next ka, fun hS => ?_⟩
      have HB := Lib.hid (HB.out.trans (ka.mono HB.out.size))
      have EA := Lib.hid ea
      clear ea ka
      refine hc 7 (told_calls (CB.out _ HB.out)) fun v wb hr => ?_
      obtain ⟨q2, c2, rfl, eb, kb⟩ := hr
      refine ⟨hS.next kb, fun hS => ?_⟩
      have HB := Lib.hid (HB.out.trans (kb.mono HB.out.size))
      have EA := Lib.hid (EA.out.below kb)
      have EB := Lib.hid eb
      clear eb kb
      refine hc 8 (true_calls (same_any _ _ _ _ _ _ EA.out EB.out)) fun v wv hr => ?_
      obtain ⟨rfl, kv⟩ := hr
      refine ⟨hS.next kv, fun hS => ?_⟩
      have HB := Lib.hid (HB.out.trans (kv.mono HB.out.size))
      clear kv
      refine tk 9 hS ?_
      refine wpAnyH_done (by kernel_rfl) ?_ _
      go_wp2
      go_ret
      exact ⟨rfl, HB.out⟩
    · have q2 : decide (600 < most) = true := decide_eq_true (by omega)
      have CA := Lib.hid (fun w hw => CS.out w hw 600 (by omega) (by omega))
      have CB := Lib.hid (fun w hw => CRS.out w hw 600 (by omega))
      generalize slV l L i 600 = M at *
      clear CS CRS
      go_upto_region 15 with (fail)
      refine dr (fun w => LBox w W.heap.size l) fun w8 hzz => ?_
      have HB := Lib.hid (below_then X.out.below (Nat.le_refl _) hzz)
      have hS := X.out.box.next hzz
      clear hzz X
      refine tl 0 hS (fun w hw => LBox.load hw) ?_
      refine tk 1 hS ?_
      refine tk 2 hS ?_
      refine tl 4 hS (fun w hw => LBox.load hw) ?_
      refine tk 5 hS ?_
      refine tk 6 hS ?_
      refine hc 3 (told_calls (CA.out _ HB.out)) fun v wa hr => ?_
      obtain ⟨q1, c1, rfl, ea, ka⟩ := hr
      refine ⟨hS.next ka, fun hS => ?_⟩
      have HB := Lib.hid (HB.out.trans (ka.mono HB.out.size))
      have EA := Lib.hid ea
      clear ea ka
      refine hc 7 (told_calls (CB.out _ HB.out)) fun v wb hr => ?_
      obtain ⟨q2, c2, rfl, eb, kb⟩ := hr
      refine ⟨hS.next kb, fun hS => ?_⟩
      have HB := Lib.hid (HB.out.trans (kb.mono HB.out.size))
      have EA := Lib.hid (EA.out.below kb)
      have EB := Lib.hid eb
      clear eb kb
      refine hc 8 (true_calls (same_any _ _ _ _ _ _ EA.out EB.out)) fun v wv hr => ?_
      obtain ⟨rfl, kv⟩ := hr
      refine ⟨hS.next kv, fun hS => ?_⟩
      have HB := Lib.hid (HB.out.trans (kv.mono HB.out.size))
      clear kv
      refine tk 9 hS ?_
      refine wpAnyH_done (by kernel_rfl) ?_ _
      go_wp2
      go_ret
      exact ⟨rfl, HB.out⟩
  · have q1 : decide (1152921504606846976 < l.base) = true := decide_eq_true (by omega)
    go_wp2_with (first | (with_reducible refine wpList_load_by rfl rfl X.out.box.base rfl ?_) | fail)
    go_ret
    exact ⟨rfl, X.out.below⟩
end Go.Proofs.Ythlghmechldegaa
