/- Act of the reference. -/
import Derived.Test.YtnedhjaphfjdmaaYDAA
import Derived.Test.YtnedhjaphfjdmaaYRR
import Derived.Test.YtnedhjaphfjdmaaYRD
import Derived.Test.YtnedhjaphfjdmaaYBX
namespace Go.Proofs.Ytnedhjaphfjdmaa
open Go.RowKit Go.Deep Go.Joins
theorem calls_rput {W w : World} {z : Nat} {dv mv : Value} {E : Int} {D : List UInt8} {M : List Int} {l : List (Nat × Array Value × Nat)} {r : List (Nat × Value × Nat × List Value)} (X : Mem W w ((z, ramC dv mv E, 39) :: l) ((22, mv, M.length, mC M) :: (5, dv, D.length, dC D) :: r)) (hr : ∀ y ∈ r, y.1 = 9) (t : Int) (s : ByteArray) (ht0 : 0 ≤ t) (ht1 : t ≤ 18446744073709551615) (hs : s.size ≤ 9223372036854775807) :
    Calls Try.prog 49 #[.pointer (some ⟨z, 0, none⟩), .int .u64 t, .string s] w fun e w' => ∃ u, e = .returned u ∧ (u = .bool (putB D.length t s) ∧ Mem W w' ((z, ramC dv mv E, 39) :: l) ((22, mv, (putM D.length M E t s).length, mC (putM D.length M E t s)) :: (5, dv, (putD D t s).length, dC (putD D t s)) :: r)) := by
  have od : OwnD w W.heap.size dv D := X.r1
  have om : OwnM w W.heap.size mv M := X.r0
  refine (rput_any z 0 W.heap.size dv mv E t D M s w (RamVar.at X.g0) od om ht0 ht1 hs).mono ?_
  rintro e w' ⟨he, hp⟩
  refine ⟨_, he, rfl, ?_⟩
  have nb : ∀ x ∈ (z, ramC dv mv E, 39) :: l, ¬ PutS dv mv x.1 := fun x hx hS => by
    have ht := X.typ x hx
    rcases hS with h | h
    · exact not_at od (X.cel x hx) (fun e => absurd ht (by rw [← e]; decide)) h.symm
    · exact not_at om (X.cel x hx) (fun e => absurd ht (by rw [← e]; decide)) h.symm
  refine ⟨fun x hx => (hp.t.block _ ((Array.getElem?_eq_some_iff.1 (X.cel x hx)).1) (nb x hx)).trans (X.cel x hx), X.nod, X.typ, X.big, fun y hy => ?_, fun y hy => ?_, Touch.below X.below hp.t (fun k hk => ?_) X.below.size⟩
  · rcases List.mem_cons.1 hy with rfl | hy
    · exact hp.m
    · rcases List.mem_cons.1 hy with rfl | hy
      · exact hp.d
      · have hy9 := hr y hy
        have oy := X.own y (List.mem_cons_of_mem _ (List.mem_cons_of_mem _ hy))
        exact owns_touch oy hp.t fun g hg hS => by
          rcases hS with h | h
          · exact rows_apart oy od (by rw [hy9]; decide) hg h.symm
          · exact rows_apart oy om (by rw [hy9]; decide) hg h.symm
  · rcases List.mem_cons.1 hy with rfl | hy
    · exact (by decide : (22 : Nat) < 33)
    · rcases List.mem_cons.1 hy with rfl | hy
      · exact (by decide : (5 : Nat) < 33)
      · exact X.row y (List.mem_cons_of_mem _ (List.mem_cons_of_mem _ hy))
  · rcases hk with h | h
    · exact (owns_lt od h.symm).1
    · exact (owns_lt om h.symm).1
set_option maxRecDepth 100000 in
set_option maxHeartbeats 2000000 in
theorem rsector_yes (b : Bd) (n : Nat) (W : World) (hb : hasB b = true) (hn : b.sector = n) (h16 : n < 16) : Calls Try.prog 67 #[bdV b] W fun e W' => e = .returned (.string (secS b n)) ∧ Below W.heap.size W W' := by
  have hsz : b.sec.size = 1024 := by unfold hasB at hb; have := eq_of_beq hb; omega
  have hne : ((b.sec.size : Int) != 1024) = false := by rw [hsz]; rfl
  have hsec : decide ((16 : Int) ≤ (n : Int)) = false := decide_eq_false (by omega)
  have X := Lib.hid (Box.new W b)
  have HB := Lib.hid (below1 W (bdO b))
  have k1 : IntKind.u64.wrap (64 * (n : Int)) = ((64 * n : Nat) : Int) := by rw [IntKind.wrap_u64]; omega
  have k2 : IntKind.u64.wrap (((64 * n : Nat) : Int) + 64) = ((64 * n + 64 : Nat) : Int) := by rw [IntKind.wrap_u64]; omega
  have k3 : 64 * n + 64 ≤ b.sec.size := by omega
  have HE := Lib.hid (show b.sec.extract (64 * n) (64 * n + 64) = secS b n from rfl)
  generalize hm2 : 64 * n + 64 = m2 at k2 k3 HE
  have k4 : 64 * n ≤ m2 := by omega
  clear hm2
  generalize 64 * n = m at k1 k2 HE k4
  have i0 : (0 : Int) ≤ m := by omega
  have i1 : (m : Int) ≤ m2 := by omega
  have i2 : (m2 : Int) ≤ b.sec.size := by omega
  have i3 : (0 : Int) ≤ m2 := by omega
  clear hsz hb h16
  go_enter Try.func67, Try.ntmps67
  go_upto_region 1 with (fail)
  generalize W.alloc (bdO b) = wx at X HB ⊢
  have m1 := X.out.cell_sector
  rw [hn] at m1
  have m2 := X.out.cell_sec
  generalize b.sec = sc at *
  go_wp2_with fail
  go_ret
  exact ⟨ret_string HE.out, HB.out⟩
set_option maxRecDepth 100000 in
theorem rsector_no (b : Bd) (W : World) (hb : hasB b = false) (h16 : b.sector < 16) : Calls Try.prog 67 #[bdV b] W fun e W' => e = .returned (.string ⟨#[]⟩) ∧ Below W.heap.size W W' := by
  have hne : ((b.sec.size : Int) != 1024) = true := by
    rw [bne_iff_ne]
    intro h
    unfold hasB at hb
    rw [h] at hb
    cases hb
  have hsec : decide ((16 : Int) ≤ b.sector) = false := decide_eq_false (by omega)
  have X := Lib.hid (Box.new W b)
  have HB := Lib.hid (below1 W (bdO b))
  clear hb h16
  go_enter Try.func67, Try.ntmps67
  go_upto_region 1 with (fail)
  generalize W.alloc (bdO b) = wx at X HB ⊢
  have m1 := X.out.cell_sector
  have m2 := X.out.cell_sec
  go_wp2_with fail
  go_ret
  exact ⟨rfl, HB.out⟩
theorem rsector_v (b : Bd) (W : World) (h0 : 0 ≤ b.sector) (h16 : b.sector < 16) : Calls Try.prog 67 #[bdV b] W fun e W' => e = .returned (.string (secV b)) ∧ Below W.heap.size W W' := by
  unfold secV
  rcases Bool.eq_false_or_eq_true (hasB b) with h | h
  · rw [if_pos h]
    exact rsector_yes b b.sector.toNat W h (by omega) (by omega)
  · rw [if_neg (by rw [h]; simp)]
    exact rsector_no b W h h16
theorem text_off (D : List UInt8) (t s : Int) (h : textE D.length t s ≠ 0) : textS D t s = ⟨#[]⟩ := by
  unfold textE at h
  unfold textS
  rw [if_neg]
  rintro ⟨_, k⟩
  exact h (if_pos (.inr k))
theorem Mem.newB {W w : World} {l : List (Nat × Array Value × Nat)} {r : List (Nat × Value × Nat × List Value)} (h : Mem W w l r) : Mem W (w.alloc zeroO) ((w.heap.size, bdC bdZ, 35) :: l) r := h.new _ 35 (by decide)
theorem calls_rcopied {f : FuncId} {args : Array Value} {w : World} {b : Bd} {F : List ByteArray} (h : Calls Try.prog f args w (Copied w b F)) : Calls Try.prog f args w fun e w' => ∃ u, e = .returned u ∧ (∃ p c, u = bdV (b.at p F.length c) ∧ OwnF w' w.heap.size (.slice p F.length c) F ∧ Below w.heap.size w w') := calls_copied h
theorem Box.load_fr_q {w : World} {g n c : Nat} {b : Bd} {q : Option Addr} (k : Box w g b) (h1 : b.fp = q) (h2 : b.fn = n) (h3 : b.fc = c) : (Instr.loadAt 28 (.pointer (some ⟨g, 9, none⟩))).run Try.prog w = .ok (.slice q n c) w := by subst h1 h2 h3; exact k.load_fr
theorem run_tail (w : World) (q : Option Addr) (n c : Nat) (G : List ByteArray) (hrd : Reads w (.slice q n c) 1 n (sC G)) (hn : n ≤ 8796093022208) : ∃ p cap w2, (Builtin.append_ #[28, 28] 28 #[.slice (some ⟨w.heap.size, 0, none⟩) 0 0, .slice q n c]).run Try.prog (w.alloc (.cells #[] 9)) = .ok (.slice p n cap) w2 ∧ w2.ownsRow w.heap.size 9 1 (.slice p n cap) n (sC G) ∧ Below w.heap.size w w2 := by
  obtain ⟨i, hi, hz, hs, hb⟩ := info9
  obtain ⟨p, cap, w2, hrun, ho, ht⟩ := run_append_first (w.alloc (.cells #[] 9)) 28 28 9 i (.string .empty) 16 Try.underlying28 hi hz hs hb rfl w.heap.size w.heap.size (heap_alloc_new _ _) (Nat.le_refl _) q n c (sC G) (hrd.below (below1 w _)) (sC_one G) (by unfold maxLen; omega) (by omega) (by simp)
  exact ⟨p, cap, w2, hrun, ho, Touch.below (below1 w _) ht (fun k hk => by omega) (by simp)⟩
theorem tail_reads {w : World} {g off n c : Nat} {F : List ByteArray} (h : Reads w (.slice (some ⟨g, off, none⟩) n c) 1 n (sC F)) (hn : n = F.length) (h0 : 0 < F.length) (hc : 1 < c) : Reads w (.slice (some ⟨g, off + 1, none⟩) (n - 1) (c - 1)) 1 (n - 1) (sC F.tail) := by
  obtain ⟨h1, h2⟩ := h
  have e : sC F = .string F[0] :: sC F.tail := by
    cases F with
    | nil => cases h0
    | cons a t => rfl
  refine ⟨?_, .inr ?_⟩
  · rw [e, List.length_cons] at h1; omega
  · rcases h2 with ⟨h, _⟩ | ⟨a, cap, ha, hl, hm, hcell⟩
    · cases h
    · simp only [Value.slice.injEq, Option.some.injEq, true_and] at ha
      obtain ⟨rfl, rfl⟩ := ha
      refine ⟨_, _, rfl, by omega, by omega, fun j u hu => ?_⟩
      have := hcell (j + 1) u (by rw [e, List.getElem?_cons_succ]; exact hu)
      rw [add_lit] at this ⊢
      rwa [show off + 1 + j = off + (j + 1) by omega]
set_option maxRecDepth 100000 in
set_option maxHeartbeats 8000000 in
theorem ract_any (b : Bd) (F : List ByteArray) (p1 q1 : Option Addr) (c1 d1 : Nat) (E k : Int) (es : ByteArray) (D : List UInt8) (M : List Int) (W : World) (hf : FAt W (.slice b.fp b.fn b.fc) F) (hF : F.length ≤ 8796093022208) (hz : ∀ f ∈ F, f.size ≤ 9223372036854775807) (hd : DAt W (.slice p1 D.length c1) D) (hm : MAt W (.slice q1 M.length d1) M) (hD : D.length ≤ 140737488351232) (hM : M.length ≤ 17592186043904) (hb : BdOk b) :
    Calls Try.prog 53 #[bdV b, .agg (ramC (.slice p1 D.length c1) (.slice q1 M.length d1) E), .agg #[.int .i64 k, .string es]] W (Acted W E (actF b F E D M k es)) := by
  have HFR := Lib.hid (fun W' (h : Below W.heap.size W W') => hf.next h)
  have HDD := Lib.hid (fun W' (h : Below W.heap.size W W') => hd.below h)
  have HMM := Lib.hid (fun W' (h : Below W.heap.size W W') => hm.below h)
  have HSZ := Lib.hid (And.intro hF (And.intro hD hM))
  have HB := Lib.hid (And.intro hb hz)
  clear hf hF hd hm hD hM hb hz
  go_enter Try.func53, Try.ntmps53
  have X := Lib.hid (act_start W b p1 q1 D.length M.length c1 d1 E k es)
  go_upto_region 1 with (fail)
  generalize ((((W.alloc (bdO b)).alloc (.cells (ramC (.slice p1 D.length c1) (.slice q1 M.length d1) E) 39)).alloc (.cells #[.int .i64 k, .string es] 80)).alloc zeroO).alloc ramZO = wr at X ⊢
  go_cut [10, 11] (fun s10 s11 wx => ∃ (zb zm : Nat) (p : Option Addr) (c : Nat) (p2 : Option Addr) (c2 : Nat) (q2 : Option Addr) (d2 : Nat), s10 = .pointer (some ⟨zb, 0, none⟩) ∧ s11 = .pointer (some ⟨zm, 0, none⟩) ∧ RowKit.Hid (Mem W wx [(zm, ramC (.slice p2 D.length c2) (.slice q2 M.length d2) E, 39), (zb, bdC (b.at p F.length c), 35), (W.heap.size + 1 + 1 + 1 + 1, ramZC, 39), (W.heap.size + 1 + 1 + 1, bdC bdZ, 35), (W.heap.size + 1 + 1, #[.int .i64 k, .string es], 80), (W.heap.size + 1, (ramC (.slice p1 D.length c1) (.slice q1 M.length d1) E), 39), (W.heap.size, bdC b, 35)] [(22, .slice q2 M.length d2, M.length, mC M), (5, .slice p2 D.length c2, D.length, dC D), (9, .slice p F.length c, F.length, sC F)]))
  case first =>
    refine dr (fun w => w.heap[W.heap.size]? = some (.cells (bdC b) 35 (0, 0)) ∧ w.heap[W.heap.size + 1]? = some (.cells (ramC (.slice p1 D.length c1) (.slice q1 M.length d1) E) 39 (0, 0))) fun wn hzz => ?_
    have X := Lib.hid (X.out.next hzz)
    clear hzz
    have hS := And.intro X.out.g4 X.out.g3
    refine tl 0 hS (fun w hw => Box.load hw.1) ?_
    refine tl 2 hS (fun w hw => ram_load hw.2) ?_
    refine three 1 4 5 (cc 1 (calls_rcopied (rcopy_bd b F _ (HFR.out _ X.out.below) HSZ.out.1)) ?_ (al 4 ⟨X.out.newB.g5, X.out.newB.g4⟩ ?_ (al 5 ⟨X.out.newR.g5, X.out.newR.g4⟩ ?_ AllReadyH.nil)))
    rintro v' wn ⟨p, c, rfl, ho', kk⟩
    have X := Lib.hid ((X.out.next kk).addrow ho' X.out.below.size (by decide))
    refine ⟨⟨X.out.g4, X.out.g3⟩, fun hS => ?_⟩
    clear ho' kk
    simp only [puts]
    refine three 3 4 5 (cc 3 (calls_mem (rcopy_any _ _ E D M _ (HDD.out _ X.out.below) (HMM.out _ X.out.below) HSZ.out.2.1 HSZ.out.2.2)) ?_ (al 4 ⟨X.out.newB.g5, X.out.newB.g4⟩ ?_ (al 5 ⟨X.out.newR.g5, X.out.newR.g4⟩ ?_ AllReadyH.nil)))
    rintro v' wn ⟨p2, c2, q2, d2, rfl, ho', ho2, kk⟩
    have X := Lib.hid (((X.out.next kk).addrow ho' X.out.below.size (by decide)).addrow ho2 X.out.below.size (by decide))
    refine ⟨⟨X.out.g4, X.out.g3⟩, fun hS => ?_⟩
    clear ho' ho2 kk
    simp only [puts]
    refine two 4 5 (al 4 ⟨X.out.newB.g5, X.out.newB.g4⟩ ?_ (al 5 ⟨X.out.newR.g5, X.out.newR.g4⟩ ?_ AllReadyH.nil))
    have X := Lib.hid X.out.newB
    generalize wn.heap.size = zb at X ⊢
    generalize wn.alloc zeroO = wn at X ⊢
    have hS := And.intro X.out.g5 X.out.g4
    refine ho 5 ⟨X.out.newR.g6, X.out.newR.g5⟩ ?_
    have X := Lib.hid X.out.newR
    generalize wn.heap.size = zm at X ⊢
    generalize wn.alloc ramZO = wn at X ⊢
    have hS := And.intro X.out.g6 X.out.g5
    rotate_left
    have X := Lib.hid X.out.newR
    generalize wn.heap.size = zm at X ⊢
    generalize wn.alloc ramZO = wn at X ⊢
    have hS := And.intro X.out.g5 X.out.g4
    refine ho 4 ⟨X.out.newB.g6, X.out.newB.g5⟩ ?_
    have X := Lib.hid X.out.newB
    generalize wn.heap.size = zb at X ⊢
    generalize wn.alloc zeroO = wn at X ⊢
    have X := Lib.hid X.out.swap
    have hS := And.intro X.out.g6 X.out.g5
    rotate_left
    have X := Lib.hid X.out.newB
    generalize wn.heap.size = zb at X ⊢
    generalize wn.alloc zeroO = wn at X ⊢
    have hS := And.intro X.out.g5 X.out.g4
    refine two 3 5 (cc 3 (calls_mem (rcopy_any _ _ E D M _ (HDD.out _ X.out.below) (HMM.out _ X.out.below) HSZ.out.2.1 HSZ.out.2.2)) ?_ (al 5 ⟨X.out.newR.g6, X.out.newR.g5⟩ ?_ AllReadyH.nil))
    rintro v' wn ⟨p2, c2, q2, d2, rfl, ho', ho2, kk⟩
    have X := Lib.hid (((X.out.next kk).addrow ho' X.out.below.size (by decide)).addrow ho2 X.out.below.size (by decide))
    refine ⟨⟨X.out.g5, X.out.g4⟩, fun hS => ?_⟩
    clear ho' ho2 kk
    simp only [puts]
    refine ho 5 ⟨X.out.newR.g6, X.out.newR.g5⟩ ?_
    have X := Lib.hid X.out.newR
    generalize wn.heap.size = zm at X ⊢
    generalize wn.alloc ramZO = wn at X ⊢
    have hS := And.intro X.out.g6 X.out.g5
    rotate_left
    have X := Lib.hid X.out.newR
    generalize wn.heap.size = zm at X ⊢
    generalize wn.alloc ramZO = wn at X ⊢
    have hS := And.intro X.out.g6 X.out.g5
    refine hc 3 (calls_mem (rcopy_any _ _ E D M _ (HDD.out _ X.out.below) (HMM.out _ X.out.below) HSZ.out.2.1 HSZ.out.2.2)) ?_
    rintro v' wn ⟨p2, c2, q2, d2, rfl, ho', ho2, kk⟩
    have X := Lib.hid (((X.out.next kk).addrow ho' X.out.below.size (by decide)).addrow ho2 X.out.below.size (by decide))
    refine ⟨⟨X.out.g6, X.out.g5⟩, fun hS => ?_⟩
    clear ho' ho2 kk
    simp only [puts]
    rotate_left
    have X := Lib.hid X.out.newR
    generalize wn.heap.size = zm at X ⊢
    generalize wn.alloc ramZO = wn at X ⊢
    have hS := And.intro X.out.g5 X.out.g4
    refine two 3 4 (cc 3 (calls_mem (rcopy_any _ _ E D M _ (HDD.out _ X.out.below) (HMM.out _ X.out.below) HSZ.out.2.1 HSZ.out.2.2)) ?_ (al 4 ⟨X.out.newB.g6, X.out.newB.g5⟩ ?_ AllReadyH.nil))
    rintro v' wn ⟨p2, c2, q2, d2, rfl, ho', ho2, kk⟩
    have X := Lib.hid (((X.out.next kk).addrow ho' X.out.below.size (by decide)).addrow ho2 X.out.below.size (by decide))
    refine ⟨⟨X.out.g5, X.out.g4⟩, fun hS => ?_⟩
    clear ho' ho2 kk
    simp only [puts]
    refine ho 4 ⟨X.out.newB.g6, X.out.newB.g5⟩ ?_
    have X := Lib.hid X.out.newB
    generalize wn.heap.size = zb at X ⊢
    generalize wn.alloc zeroO = wn at X ⊢
    have X := Lib.hid X.out.swap
    have hS := And.intro X.out.g6 X.out.g5
    rotate_left
    have X := Lib.hid X.out.newB
    generalize wn.heap.size = zb at X ⊢
    generalize wn.alloc zeroO = wn at X ⊢
    have X := Lib.hid X.out.swap
    have hS := And.intro X.out.g6 X.out.g5
    refine hc 3 (calls_mem (rcopy_any _ _ E D M _ (HDD.out _ X.out.below) (HMM.out _ X.out.below) HSZ.out.2.1 HSZ.out.2.2)) ?_
    rintro v' wn ⟨p2, c2, q2, d2, rfl, ho', ho2, kk⟩
    have X := Lib.hid (((X.out.next kk).addrow ho' X.out.below.size (by decide)).addrow ho2 X.out.below.size (by decide))
    refine ⟨⟨X.out.g6, X.out.g5⟩, fun hS => ?_⟩
    clear ho' ho2 kk
    simp only [puts]
    rotate_left
    have X := Lib.hid X.out.newB
    generalize wn.heap.size = zb at X ⊢
    generalize wn.alloc zeroO = wn at X ⊢
    have hS := And.intro X.out.g5 X.out.g4
    refine two 1 5 (cc 1 (calls_rcopied (rcopy_bd b F _ (HFR.out _ X.out.below) HSZ.out.1)) ?_ (al 5 ⟨X.out.newR.g6, X.out.newR.g5⟩ ?_ AllReadyH.nil))
    rintro v' wn ⟨p, c, rfl, ho', kk⟩
    have X := Lib.hid ((X.out.next kk).addrow ho' X.out.below.size (by decide))
    refine ⟨⟨X.out.g5, X.out.g4⟩, fun hS => ?_⟩
    clear ho' kk
    simp only [puts]
    refine two 3 5 (cc 3 (calls_mem (rcopy_any _ _ E D M _ (HDD.out _ X.out.below) (HMM.out _ X.out.below) HSZ.out.2.1 HSZ.out.2.2)) ?_ (al 5 ⟨X.out.newR.g6, X.out.newR.g5⟩ ?_ AllReadyH.nil))
    rintro v' wn ⟨p2, c2, q2, d2, rfl, ho', ho2, kk⟩
    have X := Lib.hid (((X.out.next kk).addrow ho' X.out.below.size (by decide)).addrow ho2 X.out.below.size (by decide))
    refine ⟨⟨X.out.g5, X.out.g4⟩, fun hS => ?_⟩
    clear ho' ho2 kk
    simp only [puts]
    refine ho 5 ⟨X.out.newR.g6, X.out.newR.g5⟩ ?_
    have X := Lib.hid X.out.newR
    generalize wn.heap.size = zm at X ⊢
    generalize wn.alloc ramZO = wn at X ⊢
    have hS := And.intro X.out.g6 X.out.g5
    rotate_left
    have X := Lib.hid X.out.newR
    generalize wn.heap.size = zm at X ⊢
    generalize wn.alloc ramZO = wn at X ⊢
    have hS := And.intro X.out.g6 X.out.g5
    refine hc 3 (calls_mem (rcopy_any _ _ E D M _ (HDD.out _ X.out.below) (HMM.out _ X.out.below) HSZ.out.2.1 HSZ.out.2.2)) ?_
    rintro v' wn ⟨p2, c2, q2, d2, rfl, ho', ho2, kk⟩
    have X := Lib.hid (((X.out.next kk).addrow ho' X.out.below.size (by decide)).addrow ho2 X.out.below.size (by decide))
    refine ⟨⟨X.out.g6, X.out.g5⟩, fun hS => ?_⟩
    clear ho' ho2 kk
    simp only [puts]
    rotate_left
    have X := Lib.hid X.out.newR
    generalize wn.heap.size = zm at X ⊢
    generalize wn.alloc ramZO = wn at X ⊢
    have hS := And.intro X.out.g6 X.out.g5
    refine hc 1 (calls_rcopied (rcopy_bd b F _ (HFR.out _ X.out.below) HSZ.out.1)) ?_
    rintro v' wn ⟨p, c, rfl, ho', kk⟩
    have X := Lib.hid ((X.out.next kk).addrow ho' X.out.below.size (by decide))
    refine ⟨⟨X.out.g6, X.out.g5⟩, fun hS => ?_⟩
    clear ho' kk
    simp only [puts]
    refine hc 3 (calls_mem (rcopy_any _ _ E D M _ (HDD.out _ X.out.below) (HMM.out _ X.out.below) HSZ.out.2.1 HSZ.out.2.2)) ?_
    rintro v' wn ⟨p2, c2, q2, d2, rfl, ho', ho2, kk⟩
    have X := Lib.hid (((X.out.next kk).addrow ho' X.out.below.size (by decide)).addrow ho2 X.out.below.size (by decide))
    refine ⟨⟨X.out.g6, X.out.g5⟩, fun hS => ?_⟩
    clear ho' ho2 kk
    simp only [puts]
    rotate_left
    have X := Lib.hid X.out.newR
    generalize wn.heap.size = zm at X ⊢
    generalize wn.alloc ramZO = wn at X ⊢
    have hS := And.intro X.out.g5 X.out.g4
    refine two 1 4 (cc 1 (calls_rcopied (rcopy_bd b F _ (HFR.out _ X.out.below) HSZ.out.1)) ?_ (al 4 ⟨X.out.newB.g6, X.out.newB.g5⟩ ?_ AllReadyH.nil))
    rintro v' wn ⟨p, c, rfl, ho', kk⟩
    have X := Lib.hid ((X.out.next kk).addrow ho' X.out.below.size (by decide))
    refine ⟨⟨X.out.g5, X.out.g4⟩, fun hS => ?_⟩
    clear ho' kk
    simp only [puts]
    refine two 3 4 (cc 3 (calls_mem (rcopy_any _ _ E D M _ (HDD.out _ X.out.below) (HMM.out _ X.out.below) HSZ.out.2.1 HSZ.out.2.2)) ?_ (al 4 ⟨X.out.newB.g6, X.out.newB.g5⟩ ?_ AllReadyH.nil))
    rintro v' wn ⟨p2, c2, q2, d2, rfl, ho', ho2, kk⟩
    have X := Lib.hid (((X.out.next kk).addrow ho' X.out.below.size (by decide)).addrow ho2 X.out.below.size (by decide))
    refine ⟨⟨X.out.g5, X.out.g4⟩, fun hS => ?_⟩
    clear ho' ho2 kk
    simp only [puts]
    refine ho 4 ⟨X.out.newB.g6, X.out.newB.g5⟩ ?_
    have X := Lib.hid X.out.newB
    generalize wn.heap.size = zb at X ⊢
    generalize wn.alloc zeroO = wn at X ⊢
    have X := Lib.hid X.out.swap
    have hS := And.intro X.out.g6 X.out.g5
    rotate_left
    have X := Lib.hid X.out.newB
    generalize wn.heap.size = zb at X ⊢
    generalize wn.alloc zeroO = wn at X ⊢
    have X := Lib.hid X.out.swap
    have hS := And.intro X.out.g6 X.out.g5
    refine hc 3 (calls_mem (rcopy_any _ _ E D M _ (HDD.out _ X.out.below) (HMM.out _ X.out.below) HSZ.out.2.1 HSZ.out.2.2)) ?_
    rintro v' wn ⟨p2, c2, q2, d2, rfl, ho', ho2, kk⟩
    have X := Lib.hid (((X.out.next kk).addrow ho' X.out.below.size (by decide)).addrow ho2 X.out.below.size (by decide))
    refine ⟨⟨X.out.g6, X.out.g5⟩, fun hS => ?_⟩
    clear ho' ho2 kk
    simp only [puts]
    rotate_left
    have X := Lib.hid X.out.newB
    generalize wn.heap.size = zb at X ⊢
    generalize wn.alloc zeroO = wn at X ⊢
    have X := Lib.hid X.out.swap
    have hS := And.intro X.out.g6 X.out.g5
    refine hc 1 (calls_rcopied (rcopy_bd b F _ (HFR.out _ X.out.below) HSZ.out.1)) ?_
    rintro v' wn ⟨p, c, rfl, ho', kk⟩
    have X := Lib.hid ((X.out.next kk).addrow ho' X.out.below.size (by decide))
    refine ⟨⟨X.out.g6, X.out.g5⟩, fun hS => ?_⟩
    clear ho' kk
    simp only [puts]
    refine hc 3 (calls_mem (rcopy_any _ _ E D M _ (HDD.out _ X.out.below) (HMM.out _ X.out.below) HSZ.out.2.1 HSZ.out.2.2)) ?_
    rintro v' wn ⟨p2, c2, q2, d2, rfl, ho', ho2, kk⟩
    have X := Lib.hid (((X.out.next kk).addrow ho' X.out.below.size (by decide)).addrow ho2 X.out.below.size (by decide))
    refine ⟨⟨X.out.g6, X.out.g5⟩, fun hS => ?_⟩
    clear ho' ho2 kk
    simp only [puts]
    rotate_left
    all_goals
      refine hs 6 (store_box _ _ _ _ X.out.b1 (bdC_size _)) fun wy hw => ?_
      have X := Lib.hid (X.out.p1 hw)
      refine ⟨⟨X.out.g6, X.out.g5⟩, fun hS => ?_⟩
      clear hw
      refine hs 7 (ram_store X.out.g0 rfl) fun wy hw => ?_
      have X := Lib.hid (X.out.p0 hw)
      refine ⟨⟨X.out.g6, X.out.g5⟩, fun hS => ?_⟩
      clear hw
      refine wpAnyH_done (by kernel_rfl) ?_ _
      go_wp2_with fail
      go_meet
      exact ⟨_, _, p, c, p2, c2, q2, d2, rfl, rfl, X⟩
  case rest =>
    obtain ⟨zb, zm, p, c, p2, c2, q2, d2, rfl, rfl, X⟩ := hcut
    have m_k : wc.cell? ⟨W.heap.size + 1 + 1, 0, none⟩ = some (.int .i64 k) := cell_of_row _ _ 0 _ 80 (0, 0) X.out.g4
    have hk : k = 1 ∨ (k = 2 ∧ 16 ≤ b.sector) ∨ (k = 2 ∧ b.sector < 16) ∨ (k = 3 ∧ 16 ≤ b.sector) ∨ (k = 3 ∧ b.sector < 16 ∧ textE D.length b.addr 64 ≠ 0) ∨ (k = 3 ∧ b.sector < 16 ∧ textE D.length b.addr 64 = 0 ∧ hasB b = true) ∨ (k = 3 ∧ b.sector < 16 ∧ textE D.length b.addr 64 = 0 ∧ hasB b = false) ∨ (k = 4 ∧ ¬ 0 < F.length) ∨ (k = 4 ∧ ∃ h : 0 < F.length, putB D.length b.nicA F[0] = false) ∨ (k = 4 ∧ ∃ h : 0 < F.length, putB D.length b.nicA F[0] = true) ∨ k = 5 ∨ (k ≠ 1 ∧ k ≠ 2 ∧ k ≠ 3 ∧ k ≠ 4 ∧ k ≠ 5) := by
      by_cases k1 : k = 1
      · simp [k1]
      by_cases k5 : k = 5
      · simp [k5]
      by_cases k2 : k = 2
      · have : 16 ≤ b.sector ∨ b.sector < 16 := by omega
        simp [k2, this]
      by_cases k3 : k = 3
      · by_cases h : 16 ≤ b.sector
        · simp [k3, h]
        · by_cases ht : textE D.length b.addr 64 = 0 <;> cases hasB b <;> simp [k3, ht] <;> omega
      by_cases k4 : k = 4
      · by_cases h : 0 < F.length
        · cases hp : putB D.length b.nicA F[0] <;> simp [k4, h, hp]
        · simp [k4, h]
      · simp [k1, k2, k3, k4, k5]
    rcases hk with rfl | ⟨rfl, h16⟩ | ⟨rfl, h16⟩ | ⟨rfl, h16⟩ | ⟨rfl, h16, hte⟩ | ⟨rfl, h16, hte, hb⟩ | ⟨rfl, h16, hte, hb⟩ | ⟨rfl, h0⟩ | ⟨rfl, h0, hk⟩ | ⟨rfl, h0, hk⟩ | rfl | ⟨k1, k2, k3, k4, k5⟩
    · have HE : RowKit.Hid (actF b F E D M 1 es = ⟨b, F, D, M, es, true⟩) := Lib.hid (by simp [actF])
      go_upto_region 4 with (fail)
      clear m_k
      generalize wc = wn at X ⊢
      have X0 := X
      refine dr (fun w => w.heap[zb]? = wn.heap[zb]? ∧ w.heap[zm]? = wn.heap[zm]? ∧ w.heap[W.heap.size + 1 + 1]? = wn.heap[W.heap.size + 1 + 1]?) fun wz hzz => ?_
      have X := Lib.hid (X0.out.next hzz)
      have hS : wz.heap[zb]? = wn.heap[zb]? ∧ wz.heap[zm]? = wn.heap[zm]? ∧ wz.heap[W.heap.size + 1 + 1]? = wn.heap[W.heap.size + 1 + 1]? := ⟨hzz.block _ X0.out.b1.lt, hzz.block _ (Array.getElem?_eq_some_iff.1 X0.out.g0).1, hzz.block _ (Array.getElem?_eq_some_iff.1 X0.out.g4).1⟩
      clear hzz
      refine tl 0 hS (fun w hw => Box.load (hw.1.trans X0.out.b1)) ?_
      refine tl 1 hS (fun w hw => ram_load (hw.2.1.trans X0.out.g0)) ?_
      refine tk 2 hS ?_
      refine tl 3 hS (fun w hw => run_load_cell w _ 1 9 80 _ _ _ (hw.2.2.trans X0.out.g4) Try.underlying9 rfl rfl) ?_
      refine hs 4 (store_box _ _ _ _ X.out.b3 (bdC_size _)) fun wy hw => ?_
      have X := Lib.hid (X.out.p3 hw)
      refine ⟨⟨X.out.b1.trans X0.out.b1.symm, X.out.g0.trans X0.out.g0.symm, X.out.g4.trans X0.out.g4.symm⟩, fun hS => ?_⟩
      clear hw
      refine hs 5 (ram_store X.out.g2 rfl) fun wy hw => ?_
      have X := Lib.hid (X.out.p2 hw)
      refine ⟨⟨X.out.b1.trans X0.out.b1.symm, X.out.g0.trans X0.out.g0.symm, X.out.g4.trans X0.out.g4.symm⟩, fun hS => ?_⟩
      clear hw
      refine tk 6 hS ?_
      refine tk 7 hS ?_
      refine wpAnyH_done (by kernel_rfl) ?_ _
      go_wp2_with fail
      exact bodyPost_ret (v := .tuple #[bdV _, .agg (ramC _ _ _), .string _, .bool _]) (results_act Try.results53 _ _ (W.heap.size + 1 + 1 + 1) (W.heap.size + 1 + 1 + 1 + 1) _ _ _ _ _ _ rfl X.out.b3 rfl X.out.g2 rfl rfl) rfl (by rw [HE.out]; first | exact ⟨_, _, _, _, rfl, FT.of X.out.r2, X.out.r1, X.out.r0, X.out.below⟩ | exact ⟨_, _, _, _, by rw [List.length_tail]; exact rfl, FT.of X.out.r0, X.out.r2, X.out.r1, X.out.below⟩)
    · have HE : RowKit.Hid (actF b F E D M 2 es = ⟨{ b with done := true, bad := true }, F, D, M, ⟨#[]⟩, false⟩) := Lib.hid (by simp [actF, h16])
      have hsec : decide ((16 : Int) ≤ b.sector) = true := decide_eq_true h16
      go_upto_region 6 with (fail)
      clear m_k
      refine dr (fun w => Box w W.heap.size b) fun wz hzz => ?_
      have X := Lib.hid (X.out.next hzz)
      clear hzz
      have hS := X.out.b6
      refine tk 0 hS ?_
      refine tl 1 hS (fun w hw => Box.load_sector hw) ?_
      refine tk 2 hS ?_
      refine tk 3 hS ?_
      refine tk 4 hS ?_
      refine tk 5 hS ?_
      refine tk 6 hS ?_
      refine tk 7 hS ?_
      refine tk 8 hS ?_
      refine tk 9 hS ?_
      refine tk 10 hS ?_
      refine tk 11 hS ?_
      refine hs 12 (Box.store_done X.out.b1 true) fun wy hw => ?_
      have X := Lib.hid (X.out.p1 (cs' := bdC (({ b with done := true } : Bd).at p F.length c)) hw)
      refine ⟨X.out.b6, fun hS => ?_⟩
      clear hw
      refine tk 13 hS ?_
      refine hs 14 (Box.at_st_bad X.out.b1 _) fun wn hw => ?_
      have X := Lib.hid (X.out.p1 (cs' := bdC (({ b with done := true, bad := true } : Bd).at p F.length c)) hw)
      refine ⟨X.out.b6, fun hS => wpAnyH_done (by kernel_rfl) ?_ _⟩
      clear hw
      go_upto_region 20 with (fail)
      have X0 := X
      refine dr (fun w => w.heap[zb]? = wn.heap[zb]? ∧ w.heap[zm]? = wn.heap[zm]?) fun wz hzz => ?_
      have X := Lib.hid (X0.out.next hzz)
      have hS : wz.heap[zb]? = wn.heap[zb]? ∧ wz.heap[zm]? = wn.heap[zm]? := ⟨hzz.block _ X0.out.b1.lt, hzz.block _ (Array.getElem?_eq_some_iff.1 X0.out.g0).1⟩
      clear hzz
      refine tl 0 hS (fun w hw => Box.load (hw.1.trans X0.out.b1)) ?_
      refine tl 1 hS (fun w hw => ram_load (hw.2.trans X0.out.g0)) ?_
      refine hs 2 (store_box _ _ _ _ X.out.b3 (bdC_size _)) fun wy hw => ?_
      have X := Lib.hid (X.out.p3 hw)
      refine ⟨⟨X.out.b1.trans X0.out.b1.symm, X.out.g0.trans X0.out.g0.symm⟩, fun hS => ?_⟩
      clear hw
      refine hs 3 (ram_store X.out.g2 rfl) fun wy hw => ?_
      have X := Lib.hid (X.out.p2 hw)
      refine ⟨⟨X.out.b1.trans X0.out.b1.symm, X.out.g0.trans X0.out.g0.symm⟩, fun hS => ?_⟩
      clear hw
      refine tk 4 hS ?_
      refine tk 5 hS ?_
      refine wpAnyH_done (by kernel_rfl) ?_ _
      go_wp2_with fail
      exact bodyPost_ret (v := .tuple #[bdV _, .agg (ramC _ _ _), .string _, .bool _]) (results_act Try.results53 _ _ (W.heap.size + 1 + 1 + 1) (W.heap.size + 1 + 1 + 1 + 1) _ _ _ _ _ _ rfl X.out.b3 rfl X.out.g2 rfl rfl) rfl (by rw [HE.out]; first | exact ⟨_, _, _, _, rfl, FT.of X.out.r2, X.out.r1, X.out.r0, X.out.below⟩ | exact ⟨_, _, _, _, by rw [List.length_tail]; exact rfl, FT.of X.out.r0, X.out.r2, X.out.r1, X.out.below⟩)
    · have HE : RowKit.Hid (actF b F E D M 2 es = ⟨{ b with done := true, bad := !putB D.length b.addr (secV b) }, F, putD D b.addr (secV b), putM D.length M E b.addr (secV b), ⟨#[]⟩, false⟩) := Lib.hid (by simp [actF, Int.not_le.2 h16])
      have hsec : decide ((16 : Int) ≤ b.sector) = false := decide_eq_false (by omega)
      have c67 : RowKit.Hid (∀ W, Calls Try.prog 67 #[bdV b] W fun e W' => e = .returned (.string (secV b)) ∧ Below W.heap.size W W') := Lib.hid fun W => rsector_v b W HB.out.1.sector.1 h16
      have HZ := Lib.hid (secV_size b)
      clear h16
      go_upto_region 6 with (fail)
      clear m_k
      generalize secV b = sx at HE c67 HZ
      refine dr (fun w => Box w W.heap.size b) fun wz hzz => ?_
      have X := Lib.hid (X.out.next hzz)
      clear hzz
      have hS := X.out.b6
      refine tk 0 hS ?_
      refine tl 1 hS (fun w hw => Box.load_sector hw) ?_
      refine tk 2 hS ?_
      refine tk 3 hS ?_
      refine tk 4 hS ?_
      refine tl 5 hS (fun w hw => Box.load_addr hw) ?_
      refine tl 6 hS (fun w hw => Box.load hw) ?_
      refine tk 11 hS ?_
      refine hc 7 (calls_told (c67.out _)) ?_
      rintro v' wb ⟨rfl, kk⟩
      have X := Lib.hid (X.out.next kk)
      refine ⟨X.out.b6, fun hS => ?_⟩
      clear kk
      simp only [puts]
      refine hc 8 (calls_rput X.out (by simp) b.addr sx HB.out.1.addr.1 HB.out.1.addr.2 HZ.out) ?_
      rintro v' wq ⟨rfl, X'⟩
      have X := Lib.hid X'
      clear X'
      refine ⟨X.out.b6, fun hS => ?_⟩
      simp only [puts]
      generalize putB D.length b.addr sx = ok at HE ⊢
      refine tk 9 hS ?_
      refine tk 10 hS ?_
      refine hs 12 (Box.store_done X.out.b1 true) fun wy hw => ?_
      have X := Lib.hid (X.out.p1 (cs' := bdC (({ b with done := true } : Bd).at p F.length c)) hw)
      refine ⟨X.out.b6, fun hS => ?_⟩
      clear hw
      refine tk 13 hS ?_
      refine hs 14 (Box.at_st_bad X.out.b1 _) fun wn hw => ?_
      have X := Lib.hid (X.out.p1 (cs' := bdC (({ b with done := true, bad := !ok } : Bd).at p F.length c)) hw)
      refine ⟨X.out.b6, fun hS => wpAnyH_done (by kernel_rfl) ?_ _⟩
      clear hw
      go_upto_region 20 with (fail)
      have X0 := X
      refine dr (fun w => w.heap[zb]? = wn.heap[zb]? ∧ w.heap[zm]? = wn.heap[zm]?) fun wz hzz => ?_
      have X := Lib.hid (X0.out.next hzz)
      have hS : wz.heap[zb]? = wn.heap[zb]? ∧ wz.heap[zm]? = wn.heap[zm]? := ⟨hzz.block _ X0.out.b1.lt, hzz.block _ (Array.getElem?_eq_some_iff.1 X0.out.g0).1⟩
      clear hzz
      refine tl 0 hS (fun w hw => Box.load (hw.1.trans X0.out.b1)) ?_
      refine tl 1 hS (fun w hw => ram_load (hw.2.trans X0.out.g0)) ?_
      refine hs 2 (store_box _ _ _ _ X.out.b3 (bdC_size _)) fun wy hw => ?_
      have X := Lib.hid (X.out.p3 hw)
      refine ⟨⟨X.out.b1.trans X0.out.b1.symm, X.out.g0.trans X0.out.g0.symm⟩, fun hS => ?_⟩
      clear hw
      refine hs 3 (ram_store X.out.g2 rfl) fun wy hw => ?_
      have X := Lib.hid (X.out.p2 hw)
      refine ⟨⟨X.out.b1.trans X0.out.b1.symm, X.out.g0.trans X0.out.g0.symm⟩, fun hS => ?_⟩
      clear hw
      refine tk 4 hS ?_
      refine tk 5 hS ?_
      refine wpAnyH_done (by kernel_rfl) ?_ _
      go_wp2_with fail
      exact bodyPost_ret (v := .tuple #[bdV _, .agg (ramC _ _ _), .string _, .bool _]) (results_act Try.results53 _ _ (W.heap.size + 1 + 1 + 1) (W.heap.size + 1 + 1 + 1 + 1) _ _ _ _ _ _ rfl X.out.b3 rfl X.out.g2 rfl rfl) rfl (by rw [HE.out]; first | exact ⟨_, _, _, _, rfl, FT.of X.out.r2, X.out.r1, X.out.r0, X.out.below⟩ | exact ⟨_, _, _, _, by rw [List.length_tail]; exact rfl, FT.of X.out.r0, X.out.r2, X.out.r1, X.out.below⟩)
    · have HE : RowKit.Hid (actF b F E D M 3 es = ⟨{ b with done := true, bad := true }, F, D, M, ⟨#[]⟩, false⟩) := Lib.hid (by simp [actF, h16])
      have hsec : decide ((16 : Int) ≤ b.sector) = true := decide_eq_true h16
      obtain ⟨te, hte⟩ : ∃ x, textE D.length b.addr 64 = x := ⟨_, rfl⟩
      obtain ⟨ts, hts⟩ : ∃ x, textS D b.addr 64 = x := ⟨_, rfl⟩
      have c68 : RowKit.Hid (∀ w, Below W.heap.size W w → Calls Try.prog 68 #[.agg (ramC (.slice p1 D.length c1) (.slice q1 M.length d1) E), .int .u64 b.addr, .int .i64 64] w fun e w' => e = .returned (.tuple #[.string ts, .int .i64 te]) ∧ Below w.heap.size w w') := Lib.hid fun w h => by
        have k := rtext_all (.slice p1 D.length c1) D (.slice q1 M.length d1) (.int .u64 E) b.addr 64 w (HDD.out _ h) HB.out.1.addr.1 HB.out.1.addr.2 (by omega) (by omega)
        rw [hts, hte] at k
        exact k
      clear hts hte h16
      have m_addr := X.out.b6.cell_addr
      go_upto_region 9 with (first | (with_reducible refine wpList_load_by rfl rfl (ram_load X.out.g5) rfl ?_) | (go_at_call 68; (with_reducible refine (c68.out _ X.out.below).mono ?_); rintro e w7 ⟨rfl, kk⟩; have X := Lib.hid (X.out.next kk); clear kk) | fail)
      clear m_k m_addr
      have m_sec := X.out.b6.cell_sector
      go_upto_region 10 with (first | (with_reducible refine Box.w_done X.out.b1 rfl rfl rfl rfl ?_; intro wb hwy; have X := Lib.hid (X.out.p1 (cs' := bdC (({ b with done := true } : Bd).at p F.length c)) hwy); clear hwy) | (with_reducible refine Box.w_bad X.out.b1 rfl rfl rfl rfl ?_; intro wn hwy; have X := Lib.hid (X.out.p1 (cs' := bdC (({ b with done := true, bad := true } : Bd).at p F.length c)) hwy); clear hwy) | fail)
      clear m_sec
      have m_bad := X.out.b1.at_cell_bad
      go_upto_region 20 with (fail)
      clear m_bad
      have X0 := X
      refine dr (fun w => w.heap[zb]? = wn.heap[zb]? ∧ w.heap[zm]? = wn.heap[zm]?) fun wz hzz => ?_
      have X := Lib.hid (X0.out.next hzz)
      have hS : wz.heap[zb]? = wn.heap[zb]? ∧ wz.heap[zm]? = wn.heap[zm]? := ⟨hzz.block _ X0.out.b1.lt, hzz.block _ (Array.getElem?_eq_some_iff.1 X0.out.g0).1⟩
      clear hzz
      refine tl 0 hS (fun w hw => Box.load (hw.1.trans X0.out.b1)) ?_
      refine tl 1 hS (fun w hw => ram_load (hw.2.trans X0.out.g0)) ?_
      refine hs 2 (store_box _ _ _ _ X.out.b3 (bdC_size _)) fun wy hw => ?_
      have X := Lib.hid (X.out.p3 hw)
      refine ⟨⟨X.out.b1.trans X0.out.b1.symm, X.out.g0.trans X0.out.g0.symm⟩, fun hS => ?_⟩
      clear hw
      refine hs 3 (ram_store X.out.g2 rfl) fun wy hw => ?_
      have X := Lib.hid (X.out.p2 hw)
      refine ⟨⟨X.out.b1.trans X0.out.b1.symm, X.out.g0.trans X0.out.g0.symm⟩, fun hS => ?_⟩
      clear hw
      refine tk 4 hS ?_
      refine tk 5 hS ?_
      refine wpAnyH_done (by kernel_rfl) ?_ _
      go_wp2_with fail
      exact bodyPost_ret (v := .tuple #[bdV _, .agg (ramC _ _ _), .string _, .bool _]) (results_act Try.results53 _ _ (W.heap.size + 1 + 1 + 1) (W.heap.size + 1 + 1 + 1 + 1) _ _ _ _ _ _ rfl X.out.b3 rfl X.out.g2 rfl rfl) rfl (by rw [HE.out]; first | exact ⟨_, _, _, _, rfl, FT.of X.out.r2, X.out.r1, X.out.r0, X.out.below⟩ | exact ⟨_, _, _, _, by rw [List.length_tail]; exact rfl, FT.of X.out.r0, X.out.r2, X.out.r1, X.out.below⟩)
    · have HE : RowKit.Hid (actF b F E D M 3 es = ⟨{ b with done := true, bad := true }, F, D, M, ⟨#[]⟩, false⟩) := Lib.hid (by simp [actF, hte])
      have hsec : decide ((16 : Int) ≤ b.sector) = false := decide_eq_false (by omega)
      generalize hte' : textE D.length b.addr 64 = te at hte
      have htn : (te != 0) = true := bne_iff_ne.2 hte
      obtain ⟨ts, hts⟩ : ∃ x, textS D b.addr 64 = x := ⟨_, rfl⟩
      have c68 : RowKit.Hid (∀ w, Below W.heap.size W w → Calls Try.prog 68 #[.agg (ramC (.slice p1 D.length c1) (.slice q1 M.length d1) E), .int .u64 b.addr, .int .i64 64] w fun e w' => e = .returned (.tuple #[.string ts, .int .i64 te]) ∧ Below w.heap.size w w') := Lib.hid fun w h => by
        have k := rtext_all (.slice p1 D.length c1) D (.slice q1 M.length d1) (.int .u64 E) b.addr 64 w (HDD.out _ h) HB.out.1.addr.1 HB.out.1.addr.2 (by omega) (by omega)
        rw [hts, hte'] at k
        exact k
      clear hts hte hte' h16
      have m_addr := X.out.b6.cell_addr
      go_upto_region 9 with (first | (with_reducible refine wpList_load_by rfl rfl (ram_load X.out.g5) rfl ?_) | (go_at_call 68; (with_reducible refine (c68.out _ X.out.below).mono ?_); rintro e w7 ⟨rfl, kk⟩; have X := Lib.hid (X.out.next kk); clear kk) | fail)
      clear m_k m_addr
      have m_sec := X.out.b6.cell_sector
      go_upto_region 10 with (first | (with_reducible refine Box.w_done X.out.b1 rfl rfl rfl rfl ?_; intro wb hwy; have X := Lib.hid (X.out.p1 (cs' := bdC (({ b with done := true } : Bd).at p F.length c)) hwy); clear hwy) | (with_reducible refine Box.w_bad X.out.b1 rfl rfl rfl rfl ?_; intro wn hwy; have X := Lib.hid (X.out.p1 (cs' := bdC (({ b with done := true, bad := true } : Bd).at p F.length c)) hwy); clear hwy) | fail)
      clear m_sec
      have m_bad := X.out.b1.at_cell_bad
      go_upto_region 20 with (fail)
      clear m_bad
      have X0 := X
      refine dr (fun w => w.heap[zb]? = wn.heap[zb]? ∧ w.heap[zm]? = wn.heap[zm]?) fun wz hzz => ?_
      have X := Lib.hid (X0.out.next hzz)
      have hS : wz.heap[zb]? = wn.heap[zb]? ∧ wz.heap[zm]? = wn.heap[zm]? := ⟨hzz.block _ X0.out.b1.lt, hzz.block _ (Array.getElem?_eq_some_iff.1 X0.out.g0).1⟩
      clear hzz
      refine tl 0 hS (fun w hw => Box.load (hw.1.trans X0.out.b1)) ?_
      refine tl 1 hS (fun w hw => ram_load (hw.2.trans X0.out.g0)) ?_
      refine hs 2 (store_box _ _ _ _ X.out.b3 (bdC_size _)) fun wy hw => ?_
      have X := Lib.hid (X.out.p3 hw)
      refine ⟨⟨X.out.b1.trans X0.out.b1.symm, X.out.g0.trans X0.out.g0.symm⟩, fun hS => ?_⟩
      clear hw
      refine hs 3 (ram_store X.out.g2 rfl) fun wy hw => ?_
      have X := Lib.hid (X.out.p2 hw)
      refine ⟨⟨X.out.b1.trans X0.out.b1.symm, X.out.g0.trans X0.out.g0.symm⟩, fun hS => ?_⟩
      clear hw
      refine tk 4 hS ?_
      refine tk 5 hS ?_
      refine wpAnyH_done (by kernel_rfl) ?_ _
      go_wp2_with fail
      exact bodyPost_ret (v := .tuple #[bdV _, .agg (ramC _ _ _), .string _, .bool _]) (results_act Try.results53 _ _ (W.heap.size + 1 + 1 + 1) (W.heap.size + 1 + 1 + 1 + 1) _ _ _ _ _ _ rfl X.out.b3 rfl X.out.g2 rfl rfl) rfl (by rw [HE.out]; first | exact ⟨_, _, _, _, rfl, FT.of X.out.r2, X.out.r1, X.out.r0, X.out.below⟩ | exact ⟨_, _, _, _, by rw [List.length_tail]; exact rfl, FT.of X.out.r0, X.out.r2, X.out.r1, X.out.below⟩)
    · have HE : RowKit.Hid (actF b F E D M 3 es = ⟨{ b with done := true, bad := false, sec := (b.sec.extract 0 (64 * b.sector.toNat) ++ textS D b.addr 64) ++ b.sec.extract (64 * b.sector.toNat + 64) b.sec.size }, F, D, M, ⟨#[]⟩, false⟩) := Lib.hid (by simp [actF, hte, hb, Int.not_le.2 h16])
      have hsec : decide ((16 : Int) ≤ b.sector) = false := decide_eq_false (by omega)
      obtain ⟨ts, hts⟩ : ∃ x, textS D b.addr 64 = x := ⟨_, rfl⟩
      have c68 : RowKit.Hid (∀ w, Below W.heap.size W w → Calls Try.prog 68 #[.agg (ramC (.slice p1 D.length c1) (.slice q1 M.length d1) E), .int .u64 b.addr, .int .i64 64] w fun e w' => e = .returned (.tuple #[.string ts, .int .i64 0]) ∧ Below w.heap.size w w') := Lib.hid fun w h => by
        have k := rtext_all (.slice p1 D.length c1) D (.slice q1 M.length d1) (.int .u64 E) b.addr 64 w (HDD.out _ h) HB.out.1.addr.1 HB.out.1.addr.2 (by omega) (by omega)
        rw [hts, hte] at k
        exact k
      obtain ⟨n, hn⟩ : ∃ n : Nat, b.sector = n := ⟨b.sector.toNat, by have := HB.out.1.sector.1; omega⟩
      have htz : ts.size ≤ 64 := by rw [← hts]; exact textS_size D b.addr 64
      have hsz : b.sec.size = 1024 := by unfold hasB at hb; have := eq_of_beq hb; omega
      have heq : ((b.sec.size : Int) == 1024) = true := by rw [hsz]; rfl
      have k1 : IntKind.u64.wrap (64 * b.sector) = ((64 * n : Nat) : Int) := by rw [IntKind.wrap_u64]; omega
      have k2 : IntKind.u64.wrap (((64 * n : Nat) : Int) + 64) = ((64 * n + 64 : Nat) : Int) := by rw [IntKind.wrap_u64]; omega
      have k3 : 64 * n + 64 ≤ b.sec.size := by omega
      rw [hts, show b.sector.toNat = n by omega] at HE
      obtain ⟨pa, hpa⟩ : ∃ x, b.sec.extract 0 (64 * n) = x := ⟨_, rfl⟩
      obtain ⟨su, hsu⟩ : ∃ x, b.sec.extract (64 * n + 64) b.sec.size = x := ⟨_, rfl⟩
      have hpz : pa.size ≤ 1024 := by rw [← hpa]; simp; omega
      have hsz2 : su.size ≤ 1024 := by rw [← hsu]; simp; omega
      rw [hpa, hsu] at HE
      generalize hm2 : 64 * n + 64 = m2 at k2 k3 hsu
      have k4 : 64 * n ≤ m2 := by omega
      clear hm2
      generalize 64 * n = m at k1 k2 k4 hpa
      have i0 : (0 : Int) ≤ m := by omega
      have i1 : (m : Int) ≤ m2 := by omega
      have i2 : (m2 : Int) ≤ b.sec.size := by omega
      have i3 : (0 : Int) ≤ m2 := by omega
      have i4 : (m : Int) ≤ b.sec.size := by omega
      have i5 : m ≤ b.sec.size := by omega
      have hs1 : ¬ (9223372036854775807 < (pa.size : Int) + ts.size) := by omega
      have hs2 : ¬ (9223372036854775807 < pa.size + ts.size) := by omega
      have hs3 : ¬ (9223372036854775807 < ((pa ++ ts).size : Int) + su.size) := by rw [ByteArray.size_append]; omega
      have hs4 : ¬ (9223372036854775807 < (pa ++ ts).size + su.size) := by rw [ByteArray.size_append]; omega
      have hs5 : ¬ (9223372036854775807 < (pa.size : Int) + ts.size + su.size) := by omega
      have hs6 : ¬ (9223372036854775807 < pa.size + ts.size + su.size) := by omega
      have HI := Lib.hid (And.intro k1 (And.intro k2 (And.intro k3 (And.intro k4 (And.intro i0 (And.intro i1 (And.intro i2 (And.intro i3 (And.intro i4 i5)))))))))
      have HJ := Lib.hid (And.intro hpa (And.intro hsu (And.intro hs1 (And.intro hs2 (And.intro hs3 (And.intro hs4 (And.intro hs5 hs6)))))))
      have HQ := Lib.hid heq
      clear hts hte h16 hn htz hsz hb k1 k2 k3 k4 i0 i1 i2 i3 i4 i5 hpz hsz2 hs1 hs2 hs3 hs4 hs5 hs6 hpa hsu heq
      have m_addr := X.out.b6.cell_addr
      go_upto_region 9 with (first | (with_reducible refine wpList_load_by rfl rfl (ram_load X.out.g5) rfl ?_) | (go_at_call 68; (with_reducible refine (c68.out _ X.out.below).mono ?_); rintro e w7 ⟨rfl, kk⟩; have X := Lib.hid (X.out.next kk); clear kk) | fail)
      clear m_k m_addr
      have m_sec := X.out.b6.cell_sector
      go_upto_region 10 with (first | (with_reducible refine Box.w_done X.out.b1 rfl rfl rfl rfl ?_; intro wb hwy; have X := Lib.hid (X.out.p1 (cs' := bdC (({ b with done := true } : Bd).at p F.length c)) hwy); clear hwy) | (with_reducible refine Box.w_bad X.out.b1 rfl rfl rfl rfl ?_; intro wn hwy; have X := Lib.hid (X.out.p1 (cs' := bdC (({ b with done := true, bad := false } : Bd).at p F.length c)) hwy); clear hwy) | fail)
      clear m_sec
      have m_bad := X.out.b1.at_cell_bad
      have m_sec := X.out.b6.cell_sec
      have heq := HQ.out
      go_upto_region 11 with (fail)
      clear m_bad m_sec heq
      obtain ⟨k1, k2, k3, k4, i0, i1, i2, i3, i4, i5⟩ := HI.out
      obtain ⟨j1, j2, j3, j4, j5, j6, j7, j8⟩ := HJ.out
      refine dr (fun w => Box w W.heap.size b) fun wz hzz => ?_
      have X := Lib.hid (X.out.next hzz)
      clear hzz
      have hS := X.out.b6
      refine tk 0 hS ?_
      refine tl 1 hS (fun w hw => Box.load_sec hw) ?_
      refine tk 2 hS ?_
      refine tl 3 hS (fun w hw => Box.load_sector hw) ?_
      refine tk 4 hS ?_
      refine tk 5 hS ?_
      refine tk 6 hS ?_
      refine tk 7 hS ?_
      refine tk 8 hS ?_
      refine tl 9 hS (fun w hw => Box.load_sec hw) ?_
      refine tk 10 hS ?_
      refine tl 11 hS (fun w hw => Box.load_sector hw) ?_
      refine tk 12 hS ?_
      refine tk 13 hS ?_
      refine tk 14 hS ?_
      refine tk 15 hS ?_
      refine tk 16 hS ?_
      refine hs 17 (Box.at_st_sec X.out.b1 _) fun wn hw => ?_
      have X := Lib.hid (X.out.p1 hw)
      refine ⟨X.out.b6, fun hS => wpAnyH_done (by kernel_rfl) ?_ _⟩
      clear hw k1 k2 k3 k4 i0 i1 i2 i3 i4 i5 j1 j2 j3 j4 j5 j6 j7 j8
      go_upto_region 20 with (fail)
      have X0 := X
      refine dr (fun w => w.heap[zb]? = wn.heap[zb]? ∧ w.heap[zm]? = wn.heap[zm]?) fun wz hzz => ?_
      have X := Lib.hid (X0.out.next hzz)
      have hS : wz.heap[zb]? = wn.heap[zb]? ∧ wz.heap[zm]? = wn.heap[zm]? := ⟨hzz.block _ X0.out.b1.lt, hzz.block _ (Array.getElem?_eq_some_iff.1 X0.out.g0).1⟩
      clear hzz
      refine tl 0 hS (fun w hw => Box.load (hw.1.trans X0.out.b1)) ?_
      refine tl 1 hS (fun w hw => ram_load (hw.2.trans X0.out.g0)) ?_
      refine hs 2 (store_box _ _ _ _ X.out.b3 (bdC_size _)) fun wy hw => ?_
      have X := Lib.hid (X.out.p3 hw)
      refine ⟨⟨X.out.b1.trans X0.out.b1.symm, X.out.g0.trans X0.out.g0.symm⟩, fun hS => ?_⟩
      clear hw
      refine hs 3 (ram_store X.out.g2 rfl) fun wy hw => ?_
      have X := Lib.hid (X.out.p2 hw)
      refine ⟨⟨X.out.b1.trans X0.out.b1.symm, X.out.g0.trans X0.out.g0.symm⟩, fun hS => ?_⟩
      clear hw
      refine tk 4 hS ?_
      refine tk 5 hS ?_
      refine wpAnyH_done (by kernel_rfl) ?_ _
      go_wp2_with fail
      exact bodyPost_ret (v := .tuple #[bdV _, .agg (ramC _ _ _), .string _, .bool _]) (results_act Try.results53 _ _ (W.heap.size + 1 + 1 + 1) (W.heap.size + 1 + 1 + 1 + 1) _ _ _ _ _ _ rfl X.out.b3 rfl X.out.g2 rfl rfl) rfl (by rw [HE.out]; first | exact ⟨_, _, _, _, rfl, FT.of X.out.r2, X.out.r1, X.out.r0, X.out.below⟩ | exact ⟨_, _, _, _, by rw [List.length_tail]; exact rfl, FT.of X.out.r0, X.out.r2, X.out.r1, X.out.below⟩)
    · have HE : RowKit.Hid (actF b F E D M 3 es = ⟨{ b with done := true, bad := false }, F, D, M, ⟨#[]⟩, false⟩) := Lib.hid (by simp [actF, hte, hb, Int.not_le.2 h16])
      have hsec : decide ((16 : Int) ≤ b.sector) = false := decide_eq_false (by omega)
      obtain ⟨ts, hts⟩ : ∃ x, textS D b.addr 64 = x := ⟨_, rfl⟩
      have c68 : RowKit.Hid (∀ w, Below W.heap.size W w → Calls Try.prog 68 #[.agg (ramC (.slice p1 D.length c1) (.slice q1 M.length d1) E), .int .u64 b.addr, .int .i64 64] w fun e w' => e = .returned (.tuple #[.string ts, .int .i64 0]) ∧ Below w.heap.size w w') := Lib.hid fun w h => by
        have k := rtext_all (.slice p1 D.length c1) D (.slice q1 M.length d1) (.int .u64 E) b.addr 64 w (HDD.out _ h) HB.out.1.addr.1 HB.out.1.addr.2 (by omega) (by omega)
        rw [hts, hte] at k
        exact k
      have heq : RowKit.Hid (((b.sec.size : Int) == 1024) = false) := Lib.hid hb
      clear hts hte h16 hb
      have m_addr := X.out.b6.cell_addr
      go_upto_region 9 with (first | (with_reducible refine wpList_load_by rfl rfl (ram_load X.out.g5) rfl ?_) | (go_at_call 68; (with_reducible refine (c68.out _ X.out.below).mono ?_); rintro e w7 ⟨rfl, kk⟩; have X := Lib.hid (X.out.next kk); clear kk) | fail)
      clear m_k m_addr
      have m_sec := X.out.b6.cell_sector
      go_upto_region 10 with (first | (with_reducible refine Box.w_done X.out.b1 rfl rfl rfl rfl ?_; intro wb hwy; have X := Lib.hid (X.out.p1 (cs' := bdC (({ b with done := true } : Bd).at p F.length c)) hwy); clear hwy) | (with_reducible refine Box.w_bad X.out.b1 rfl rfl rfl rfl ?_; intro wn hwy; have X := Lib.hid (X.out.p1 (cs' := bdC (({ b with done := true, bad := false } : Bd).at p F.length c)) hwy); clear hwy) | fail)
      clear m_sec
      have m_bad := X.out.b1.at_cell_bad
      have m_sec := X.out.b6.cell_sec
      have heq := heq.out
      go_upto_region 20 with (fail)
      clear m_bad m_sec heq
      have X0 := X
      refine dr (fun w => w.heap[zb]? = wn.heap[zb]? ∧ w.heap[zm]? = wn.heap[zm]?) fun wz hzz => ?_
      have X := Lib.hid (X0.out.next hzz)
      have hS : wz.heap[zb]? = wn.heap[zb]? ∧ wz.heap[zm]? = wn.heap[zm]? := ⟨hzz.block _ X0.out.b1.lt, hzz.block _ (Array.getElem?_eq_some_iff.1 X0.out.g0).1⟩
      clear hzz
      refine tl 0 hS (fun w hw => Box.load (hw.1.trans X0.out.b1)) ?_
      refine tl 1 hS (fun w hw => ram_load (hw.2.trans X0.out.g0)) ?_
      refine hs 2 (store_box _ _ _ _ X.out.b3 (bdC_size _)) fun wy hw => ?_
      have X := Lib.hid (X.out.p3 hw)
      refine ⟨⟨X.out.b1.trans X0.out.b1.symm, X.out.g0.trans X0.out.g0.symm⟩, fun hS => ?_⟩
      clear hw
      refine hs 3 (ram_store X.out.g2 rfl) fun wy hw => ?_
      have X := Lib.hid (X.out.p2 hw)
      refine ⟨⟨X.out.b1.trans X0.out.b1.symm, X.out.g0.trans X0.out.g0.symm⟩, fun hS => ?_⟩
      clear hw
      refine tk 4 hS ?_
      refine tk 5 hS ?_
      refine wpAnyH_done (by kernel_rfl) ?_ _
      go_wp2_with fail
      exact bodyPost_ret (v := .tuple #[bdV _, .agg (ramC _ _ _), .string _, .bool _]) (results_act Try.results53 _ _ (W.heap.size + 1 + 1 + 1) (W.heap.size + 1 + 1 + 1 + 1) _ _ _ _ _ _ rfl X.out.b3 rfl X.out.g2 rfl rfl) rfl (by rw [HE.out]; first | exact ⟨_, _, _, _, rfl, FT.of X.out.r2, X.out.r1, X.out.r0, X.out.below⟩ | exact ⟨_, _, _, _, by rw [List.length_tail]; exact rfl, FT.of X.out.r0, X.out.r2, X.out.r1, X.out.below⟩)
    · have HE : RowKit.Hid (actF b F E D M 4 es = ⟨b, F, D, M, ⟨#[]⟩, false⟩) := Lib.hid (by simp [actF, h0])
      have hl := (HFR.out _ (Below.refl _ W)).len
      have g0 : decide (0 < b.fn) = false := decide_eq_false (by omega)
      clear h0 hl
      go_upto_region 13 with (fail)
      clear m_k
      refine dr (fun w => Box w W.heap.size b) fun wn hzz => ?_
      have X := Lib.hid (X.out.next hzz)
      clear hzz
      have hS := X.out.b6
      refine tk 0 hS ?_
      refine tl 1 hS (fun w hw => Box.load_fr hw) ?_
      refine tk 2 hS ?_
      refine tk 3 hS ?_
      refine tk 4 hS ?_
      refine tk 5 hS ?_
      refine tk 6 hS ?_
      refine tk 7 hS ?_
      refine tk 8 hS ?_
      refine tk 9 hS ?_
      refine tk 10 hS ?_
      refine tk 11 hS ?_
      refine tk 12 hS ?_
      refine wpAnyH_done (by kernel_rfl) ?_ _
      go_upto_region 20 with (fail)
      have X0 := X
      refine dr (fun w => w.heap[zb]? = wn.heap[zb]? ∧ w.heap[zm]? = wn.heap[zm]?) fun wz hzz => ?_
      have X := Lib.hid (X0.out.next hzz)
      have hS : wz.heap[zb]? = wn.heap[zb]? ∧ wz.heap[zm]? = wn.heap[zm]? := ⟨hzz.block _ X0.out.b1.lt, hzz.block _ (Array.getElem?_eq_some_iff.1 X0.out.g0).1⟩
      clear hzz
      refine tl 0 hS (fun w hw => Box.load (hw.1.trans X0.out.b1)) ?_
      refine tl 1 hS (fun w hw => ram_load (hw.2.trans X0.out.g0)) ?_
      refine hs 2 (store_box _ _ _ _ X.out.b3 (bdC_size _)) fun wy hw => ?_
      have X := Lib.hid (X.out.p3 hw)
      refine ⟨⟨X.out.b1.trans X0.out.b1.symm, X.out.g0.trans X0.out.g0.symm⟩, fun hS => ?_⟩
      clear hw
      refine hs 3 (ram_store X.out.g2 rfl) fun wy hw => ?_
      have X := Lib.hid (X.out.p2 hw)
      refine ⟨⟨X.out.b1.trans X0.out.b1.symm, X.out.g0.trans X0.out.g0.symm⟩, fun hS => ?_⟩
      clear hw
      refine tk 4 hS ?_
      refine tk 5 hS ?_
      refine wpAnyH_done (by kernel_rfl) ?_ _
      go_wp2_with fail
      exact bodyPost_ret (v := .tuple #[bdV _, .agg (ramC _ _ _), .string _, .bool _]) (results_act Try.results53 _ _ (W.heap.size + 1 + 1 + 1) (W.heap.size + 1 + 1 + 1 + 1) _ _ _ _ _ _ rfl X.out.b3 rfl X.out.g2 rfl rfl) rfl (by rw [HE.out]; first | exact ⟨_, _, _, _, rfl, FT.of X.out.r2, X.out.r1, X.out.r0, X.out.below⟩ | exact ⟨_, _, _, _, by rw [List.length_tail]; exact rfl, FT.of X.out.r0, X.out.r2, X.out.r1, X.out.below⟩)
    · have HE : RowKit.Hid (actF b F E D M 4 es = ⟨b, F, putD D b.nicA F[0], putM D.length M E b.nicA F[0], ⟨#[]⟩, false⟩) := Lib.hid (by simp [actF, h0, hk])
      have hl := (HFR.out _ (Below.refl _ W)).len
      have g0 : decide (0 < b.fn) = true := decide_eq_true (by omega)
      have g1 : 0 < b.fn := by omega
      have HZ := Lib.hid (HB.out.2 F[0] (List.getElem_mem h0))
      have HK := Lib.hid hk
      obtain ⟨gf, of, hq, hstr⟩ := str_at (hl ▸ HFR.out _ (Below.refl _ W)) h0
      have hst := Lib.hid (hstr 0 h0)
      clear hstr
      obtain ⟨f0, hf0⟩ : ∃ x, F[0] = x := ⟨_, rfl⟩
      rw [hf0] at HE HZ HK hst
      have HQ := Lib.hid hq
      clear hk hf0 hq
      go_upto_region 13 with (fail)
      clear m_k
      refine dr (fun w => Box w W.heap.size b ∧ Below W.heap.size W w) fun wz hzz => ?_
      have X := Lib.hid (X.out.next hzz)
      clear hzz
      have hS := And.intro X.out.b6 X.out.below
      refine tk 0 hS ?_
      refine tl 1 hS (fun w hw => Box.load_fr hw.1) ?_
      refine tk 2 hS ?_
      refine tk 3 hS ?_
      refine tk 4 hS ?_
      refine tk 5 hS ?_
      refine tl 6 hS (fun w hw => Box.load_nicA hw.1) ?_
      refine tk 7 hS ?_
      refine tl 8 hS (fun w hw => Box.load_fr hw.1) ?_
      rw [HQ.out]
      refine tk 9 hS ?_ (hy := .inl ⟨by kernel_rfl, fun w _ => exec_idx rfl rfl rfl (run_idx9 w gf of b.fn b.fc 0 g1)⟩)
      refine tl 10 hS (fun w hw => hst.out w hw.2) ?_
      refine hc 11 (calls_rput X.out (by simp) b.nicA f0 HB.out.1.nicA.1 HB.out.1.nicA.2 HZ.out) ?_
      rintro v' wn ⟨hv', X'⟩
      rw [HK.out] at hv'
      subst hv'
      have X := Lib.hid X'
      clear X'
      refine ⟨⟨X.out.b6, X.out.below⟩, fun hS => ?_⟩
      simp only [puts]
      refine tk 12 hS ?_
      refine wpAnyH_done (by kernel_rfl) ?_ _
      go_upto_region 20 with (fail)
      have X0 := X
      refine dr (fun w => w.heap[zb]? = wn.heap[zb]? ∧ w.heap[zm]? = wn.heap[zm]?) fun wz hzz => ?_
      have X := Lib.hid (X0.out.next hzz)
      have hS : wz.heap[zb]? = wn.heap[zb]? ∧ wz.heap[zm]? = wn.heap[zm]? := ⟨hzz.block _ X0.out.b1.lt, hzz.block _ (Array.getElem?_eq_some_iff.1 X0.out.g0).1⟩
      clear hzz
      refine tl 0 hS (fun w hw => Box.load (hw.1.trans X0.out.b1)) ?_
      refine tl 1 hS (fun w hw => ram_load (hw.2.trans X0.out.g0)) ?_
      refine hs 2 (store_box _ _ _ _ X.out.b3 (bdC_size _)) fun wy hw => ?_
      have X := Lib.hid (X.out.p3 hw)
      refine ⟨⟨X.out.b1.trans X0.out.b1.symm, X.out.g0.trans X0.out.g0.symm⟩, fun hS => ?_⟩
      clear hw
      refine hs 3 (ram_store X.out.g2 rfl) fun wy hw => ?_
      have X := Lib.hid (X.out.p2 hw)
      refine ⟨⟨X.out.b1.trans X0.out.b1.symm, X.out.g0.trans X0.out.g0.symm⟩, fun hS => ?_⟩
      clear hw
      refine tk 4 hS ?_
      refine tk 5 hS ?_
      refine wpAnyH_done (by kernel_rfl) ?_ _
      go_wp2_with fail
      exact bodyPost_ret (v := .tuple #[bdV _, .agg (ramC _ _ _), .string _, .bool _]) (results_act Try.results53 _ _ (W.heap.size + 1 + 1 + 1) (W.heap.size + 1 + 1 + 1 + 1) _ _ _ _ _ _ rfl X.out.b3 rfl X.out.g2 rfl rfl) rfl (by rw [HE.out]; first | exact ⟨_, _, _, _, rfl, FT.of X.out.r2, X.out.r1, X.out.r0, X.out.below⟩ | exact ⟨_, _, _, _, by rw [List.length_tail]; exact rfl, FT.of X.out.r0, X.out.r2, X.out.r1, X.out.below⟩)
    · have HE : RowKit.Hid (actF b F E D M 4 es = ⟨b, F.tail, putD D b.nicA F[0], putM D.length M E b.nicA F[0], ⟨#[]⟩, false⟩) := Lib.hid (by simp [actF, h0, hk])
      have hl := (HFR.out _ (Below.refl _ W)).len
      have g0 : decide (0 < b.fn) = true := decide_eq_true (by omega)
      have g1 : 0 < b.fn := by omega
      have HZ := Lib.hid (HB.out.2 F[0] (List.getElem_mem h0))
      have HK := Lib.hid hk
      obtain ⟨gf, of, hq, hstr⟩ := str_at (hl ▸ HFR.out _ (Below.refl _ W)) h0
      have hst := Lib.hid (hstr 0 h0)
      clear hstr
      obtain ⟨f0, hf0⟩ : ∃ x, F[0] = x := ⟨_, rfl⟩
      rw [hf0] at HE HZ HK hst
      have HQ := Lib.hid hq
      clear hk hf0 hq
      go_upto_region 13 with (fail)
      clear m_k
      refine dr (fun w => Box w W.heap.size b ∧ Below W.heap.size W w) fun wz hzz => ?_
      have X := Lib.hid (X.out.next hzz)
      clear hzz
      have hS := And.intro X.out.b6 X.out.below
      refine tk 0 hS ?_
      refine tl 1 hS (fun w hw => Box.load_fr hw.1) ?_
      refine tk 2 hS ?_
      refine tk 3 hS ?_
      refine tk 4 hS ?_
      refine tk 5 hS ?_
      refine tl 6 hS (fun w hw => Box.load_nicA hw.1) ?_
      refine tk 7 hS ?_
      refine tl 8 hS (fun w hw => Box.load_fr hw.1) ?_
      rw [HQ.out]
      refine tk 9 hS ?_ (hy := .inl ⟨by kernel_rfl, fun w _ => exec_idx rfl rfl rfl (run_idx9 w gf of b.fn b.fc 0 g1)⟩)
      refine tl 10 hS (fun w hw => hst.out w hw.2) ?_
      refine hc 11 (calls_rput X.out (by simp) b.nicA f0 HB.out.1.nicA.1 HB.out.1.nicA.2 HZ.out) ?_
      rintro v' wn ⟨hv', X'⟩
      rw [HK.out] at hv'
      subst hv'
      have X := Lib.hid X'
      clear X'
      refine ⟨⟨X.out.b6, X.out.below⟩, fun hS => ?_⟩
      simp only [puts]
      refine tk 12 hS ?_
      refine wpAnyH_done (by kernel_rfl) ?_ _
      have X := Lib.hid X.out
      obtain ⟨fc, hfc⟩ : ∃ x, b.fc = x := ⟨_, rfl⟩
      have HF2 := Lib.hid (And.intro HQ.out (And.intro hl hfc))
      have hrd : Reads W (.slice (some ⟨gf, of, none⟩) F.length fc) 1 F.length (sC F) := by
        have := HFR.out _ (Below.refl _ W)
        rw [HQ.out, hl, hfc] at this
        exact this
      have hcap : F.length ≤ fc := by
        rcases hrd.2 with ⟨h, _⟩ | ⟨a, cap, ha, hl, hm, hcell⟩
        · cases h
        · simp only [Value.slice.injEq, true_and] at ha
          omega
      have HLN := Lib.hid HSZ.out.1
      have hc1 : (1 : Int) ≤ F.length := by omega
      have hc2 : (1 : Int) ≤ fc := by omega
      have X1 := Lib.hid (X.out.next (below1 wn (.cells #[] 9)))
      clear hfc hl g0 g1
      rcases Nat.lt_or_ge 1 fc with hc0 | hc0
      have hc3 : ¬ fc = 1 := by omega
      have e1 : F.tail.length = F.length - 1 := List.length_tail
      obtain ⟨p3, c3, w3, hrun, ho, hb⟩ := run_tail wn _ _ _ F.tail ((tail_reads hrd rfl h0 hc0).below X.out.below) (by have := HLN.out; omega)
      rotate_left
      obtain rfl : fc = 1 := by omega
      have hl1 : F.length = 1 := by omega
      have e1 : F.tail.length = 0 := by rw [List.length_tail]; omega
      obtain ⟨p3, c3, w3, hrun, ho, hb⟩ := run_tail wn (some ⟨gf, of, none⟩) 0 0 F.tail (show Reads wn (.slice (some ⟨gf, of, none⟩) 0 0) 1 0 (sC F.tail) from ⟨by rw [show F.tail = [] from List.eq_nil_of_length_eq_zero (by rw [List.length_tail]; omega)]; rfl, .inr ⟨_, _, rfl, Nat.le_refl _, Nat.zero_le _, fun j u hu => by rw [show F.tail = [] from List.eq_nil_of_length_eq_zero (by rw [List.length_tail]; omega)] at hu; cases hu⟩⟩) (by omega)
      all_goals
        have X3 := Lib.hid ((X.out.next hb).addrow (e1 ▸ ho) X.out.below.size (by decide))
        have HR := Lib.hid hrun
        have HE1 := Lib.hid e1
        clear hrd hcap ho hb hrun e1
        go_upto_region 20 with (first | (with_reducible refine wpList_load_by rfl rfl (Box.load_fr_q X1.out.b6 HF2.out.1 HF2.out.2.1 HF2.out.2.2) rfl ?_) | (at_builtin; (refine wpList_append_run rfl _ _ 28 rfl _ _ _ rfl rfl _ HR.out ?_)) | ((with_reducible refine Box.w_fr X3.out.b1 rfl rfl rfl rfl ?_); intro wy hwy) | fail)
        have X := Lib.hid (X3.out.p1 (w' := wy) (cs' := bdC (b.at p3 F.tail.length c3)) (by rw [HE1.out]; exact hwy))
        clear hwy
        generalize wy = wn at X ⊢
        have X0 := X
        refine dr (fun w => w.heap[zb]? = wn.heap[zb]? ∧ w.heap[zm]? = wn.heap[zm]?) fun wz hzz => ?_
        have X := Lib.hid (X0.out.next hzz)
        have hS : wz.heap[zb]? = wn.heap[zb]? ∧ wz.heap[zm]? = wn.heap[zm]? := ⟨hzz.block _ X0.out.b1.lt, hzz.block _ (Array.getElem?_eq_some_iff.1 X0.out.g0).1⟩
        clear hzz
        refine tl 0 hS (fun w hw => Box.load (hw.1.trans X0.out.b1)) ?_
        refine tl 1 hS (fun w hw => ram_load (hw.2.trans X0.out.g0)) ?_
        refine hs 2 (store_box _ _ _ _ X.out.b3 (bdC_size _)) fun wy hw => ?_
        have X := Lib.hid (X.out.p3 hw)
        refine ⟨⟨X.out.b1.trans X0.out.b1.symm, X.out.g0.trans X0.out.g0.symm⟩, fun hS => ?_⟩
        clear hw
        refine hs 3 (ram_store X.out.g2 rfl) fun wy hw => ?_
        have X := Lib.hid (X.out.p2 hw)
        refine ⟨⟨X.out.b1.trans X0.out.b1.symm, X.out.g0.trans X0.out.g0.symm⟩, fun hS => ?_⟩
        clear hw
        refine tk 4 hS ?_
        refine tk 5 hS ?_
        refine wpAnyH_done (by kernel_rfl) ?_ _
        go_wp2_with fail
        exact bodyPost_ret (v := .tuple #[bdV _, .agg (ramC _ _ _), .string _, .bool _]) (results_act Try.results53 _ _ (W.heap.size + 1 + 1 + 1) (W.heap.size + 1 + 1 + 1 + 1) _ _ _ _ _ _ rfl X.out.b3 rfl X.out.g2 rfl rfl) rfl (by rw [HE.out]; first | exact ⟨_, _, _, _, rfl, FT.of X.out.r0, X.out.r2, X.out.r1, X.out.below⟩ | exact ⟨_, _, _, _, rfl, FT.of X.out.r2, X.out.r1, X.out.r0, X.out.below⟩ | exact ⟨_, _, _, _, by rw [List.length_tail]; exact rfl, FT.of X.out.r0, X.out.r2, X.out.r1, X.out.below⟩)
    · have hcase : b.nicL < 1 ∨ (1 ≤ b.nicL ∧ 64 < b.nicL) ∨ (1 ≤ b.nicL ∧ b.nicL ≤ 64 ∧ textE D.length b.nicA b.nicL ≠ 0) ∨ (1 ≤ b.nicL ∧ b.nicL ≤ 64 ∧ textE D.length b.nicA b.nicL = 0) := by omega
      rcases hcase with h1 | ⟨h1, h2⟩ | ⟨h1, h2, hte⟩ | ⟨h1, h2, hte⟩
      · have HE : RowKit.Hid (actF b F E D M 5 es = ⟨b, F, D, M, ⟨#[]⟩, false⟩) := Lib.hid (by simp [actF, goV, h1])
        have g1 : decide ((1 : Int) ≤ b.nicL) = false := decide_eq_false (by omega)
        have m_l := X.out.b6.cell_nicL
        go_upto_region 20 with (fail)
        clear m_k m_l g1 h1
        generalize wc = wn at X ⊢
        have X0 := X
        refine dr (fun w => w.heap[zb]? = wn.heap[zb]? ∧ w.heap[zm]? = wn.heap[zm]?) fun wz hzz => ?_
        have X := Lib.hid (X0.out.next hzz)
        have hS : wz.heap[zb]? = wn.heap[zb]? ∧ wz.heap[zm]? = wn.heap[zm]? := ⟨hzz.block _ X0.out.b1.lt, hzz.block _ (Array.getElem?_eq_some_iff.1 X0.out.g0).1⟩
        clear hzz
        refine tl 0 hS (fun w hw => Box.load (hw.1.trans X0.out.b1)) ?_
        refine tl 1 hS (fun w hw => ram_load (hw.2.trans X0.out.g0)) ?_
        refine hs 2 (store_box _ _ _ _ X.out.b3 (bdC_size _)) fun wy hw => ?_
        have X := Lib.hid (X.out.p3 hw)
        refine ⟨⟨X.out.b1.trans X0.out.b1.symm, X.out.g0.trans X0.out.g0.symm⟩, fun hS => ?_⟩
        clear hw
        refine hs 3 (ram_store X.out.g2 rfl) fun wy hw => ?_
        have X := Lib.hid (X.out.p2 hw)
        refine ⟨⟨X.out.b1.trans X0.out.b1.symm, X.out.g0.trans X0.out.g0.symm⟩, fun hS => ?_⟩
        clear hw
        refine tk 4 hS ?_
        refine tk 5 hS ?_
        refine wpAnyH_done (by kernel_rfl) ?_ _
        go_wp2_with fail
        exact bodyPost_ret (v := .tuple #[bdV _, .agg (ramC _ _ _), .string _, .bool _]) (results_act Try.results53 _ _ (W.heap.size + 1 + 1 + 1) (W.heap.size + 1 + 1 + 1 + 1) _ _ _ _ _ _ rfl X.out.b3 rfl X.out.g2 rfl rfl) rfl (by rw [HE.out]; first | exact ⟨_, _, _, _, rfl, FT.of X.out.r2, X.out.r1, X.out.r0, X.out.below⟩ | exact ⟨_, _, _, _, by rw [List.length_tail]; exact rfl, FT.of X.out.r0, X.out.r2, X.out.r1, X.out.below⟩)
      · have HE : RowKit.Hid (actF b F E D M 5 es = ⟨b, F, D, M, ⟨#[]⟩, false⟩) := Lib.hid (by simp [actF, goV, h2])
        have g1 : decide ((1 : Int) ≤ b.nicL) = true := decide_eq_true (by omega)
        have g2 : decide (b.nicL ≤ 64) = false := decide_eq_false (by omega)
        have m_l := X.out.b6.cell_nicL
        go_upto_region 20 with (fail)
        clear m_k m_l g1 g2 h1 h2
        generalize wc = wn at X ⊢
        have X0 := X
        refine dr (fun w => w.heap[zb]? = wn.heap[zb]? ∧ w.heap[zm]? = wn.heap[zm]?) fun wz hzz => ?_
        have X := Lib.hid (X0.out.next hzz)
        have hS : wz.heap[zb]? = wn.heap[zb]? ∧ wz.heap[zm]? = wn.heap[zm]? := ⟨hzz.block _ X0.out.b1.lt, hzz.block _ (Array.getElem?_eq_some_iff.1 X0.out.g0).1⟩
        clear hzz
        refine tl 0 hS (fun w hw => Box.load (hw.1.trans X0.out.b1)) ?_
        refine tl 1 hS (fun w hw => ram_load (hw.2.trans X0.out.g0)) ?_
        refine hs 2 (store_box _ _ _ _ X.out.b3 (bdC_size _)) fun wy hw => ?_
        have X := Lib.hid (X.out.p3 hw)
        refine ⟨⟨X.out.b1.trans X0.out.b1.symm, X.out.g0.trans X0.out.g0.symm⟩, fun hS => ?_⟩
        clear hw
        refine hs 3 (ram_store X.out.g2 rfl) fun wy hw => ?_
        have X := Lib.hid (X.out.p2 hw)
        refine ⟨⟨X.out.b1.trans X0.out.b1.symm, X.out.g0.trans X0.out.g0.symm⟩, fun hS => ?_⟩
        clear hw
        refine tk 4 hS ?_
        refine tk 5 hS ?_
        refine wpAnyH_done (by kernel_rfl) ?_ _
        go_wp2_with fail
        exact bodyPost_ret (v := .tuple #[bdV _, .agg (ramC _ _ _), .string _, .bool _]) (results_act Try.results53 _ _ (W.heap.size + 1 + 1 + 1) (W.heap.size + 1 + 1 + 1 + 1) _ _ _ _ _ _ rfl X.out.b3 rfl X.out.g2 rfl rfl) rfl (by rw [HE.out]; first | exact ⟨_, _, _, _, rfl, FT.of X.out.r2, X.out.r1, X.out.r0, X.out.below⟩ | exact ⟨_, _, _, _, by rw [List.length_tail]; exact rfl, FT.of X.out.r0, X.out.r2, X.out.r1, X.out.below⟩)
      · have HE : RowKit.Hid (actF b F E D M 5 es = ⟨b, F, D, M, ⟨#[]⟩, false⟩) := Lib.hid (by simp [actF, goV, Int.not_lt.2 h1, Int.not_lt.2 h2, hte, text_off])
        have g1 : decide ((1 : Int) ≤ b.nicL) = true := decide_eq_true (by omega)
        have g2 : decide (b.nicL ≤ 64) = true := decide_eq_true (by omega)
        have g3 : IntKind.i64.wrap b.nicL = b.nicL := by rw [IntKind.wrap_i64]; omega
        obtain ⟨ts, hts⟩ : ∃ x, textS D b.nicA b.nicL = x := ⟨_, rfl⟩
        generalize hte' : textE D.length b.nicA b.nicL = te at hte
        have htn : (te == 0) = false := beq_eq_false_iff_ne.2 hte
        have c68 : RowKit.Hid (∀ w, Below W.heap.size W w → Calls Try.prog 68 #[.agg (ramC (.slice p1 D.length c1) (.slice q1 M.length d1) E), .int .u64 b.nicA, .int .i64 b.nicL] w fun e w' => e = .returned (.tuple #[.string ts, .int .i64 te]) ∧ Below w.heap.size w w') := Lib.hid fun w h => by
          have k := rtext_all (.slice p1 D.length c1) D (.slice q1 M.length d1) (.int .u64 E) b.nicA b.nicL w (HDD.out _ h) HB.out.1.nicA.1 HB.out.1.nicA.2 (by omega) (by omega)
          rw [hts, hte'] at k
          exact k
        have m_l := X.out.b6.cell_nicL
        have m_a := X.out.b6.cell_nicA
        clear hte hte' hts h1 h2
        go_upto_region 20 with (first | (with_reducible refine wpList_load_by rfl rfl (ram_load X.out.g5) rfl ?_) | (go_at_call 68; (with_reducible refine (c68.out _ X.out.below).mono ?_); rintro e wn ⟨rfl, kk⟩; have X := Lib.hid (X.out.next kk); clear kk) | fail)
        clear m_k m_l m_a g1 g2 g3 htn
        have X0 := X
        refine dr (fun w => w.heap[zb]? = wn.heap[zb]? ∧ w.heap[zm]? = wn.heap[zm]?) fun wz hzz => ?_
        have X := Lib.hid (X0.out.next hzz)
        have hS : wz.heap[zb]? = wn.heap[zb]? ∧ wz.heap[zm]? = wn.heap[zm]? := ⟨hzz.block _ X0.out.b1.lt, hzz.block _ (Array.getElem?_eq_some_iff.1 X0.out.g0).1⟩
        clear hzz
        refine tl 0 hS (fun w hw => Box.load (hw.1.trans X0.out.b1)) ?_
        refine tl 1 hS (fun w hw => ram_load (hw.2.trans X0.out.g0)) ?_
        refine hs 2 (store_box _ _ _ _ X.out.b3 (bdC_size _)) fun wy hw => ?_
        have X := Lib.hid (X.out.p3 hw)
        refine ⟨⟨X.out.b1.trans X0.out.b1.symm, X.out.g0.trans X0.out.g0.symm⟩, fun hS => ?_⟩
        clear hw
        refine hs 3 (ram_store X.out.g2 rfl) fun wy hw => ?_
        have X := Lib.hid (X.out.p2 hw)
        refine ⟨⟨X.out.b1.trans X0.out.b1.symm, X.out.g0.trans X0.out.g0.symm⟩, fun hS => ?_⟩
        clear hw
        refine tk 4 hS ?_
        refine tk 5 hS ?_
        refine wpAnyH_done (by kernel_rfl) ?_ _
        go_wp2_with fail
        exact bodyPost_ret (v := .tuple #[bdV _, .agg (ramC _ _ _), .string _, .bool _]) (results_act Try.results53 _ _ (W.heap.size + 1 + 1 + 1) (W.heap.size + 1 + 1 + 1 + 1) _ _ _ _ _ _ rfl X.out.b3 rfl X.out.g2 rfl rfl) rfl (by rw [HE.out]; first | exact ⟨_, _, _, _, rfl, FT.of X.out.r2, X.out.r1, X.out.r0, X.out.below⟩ | exact ⟨_, _, _, _, by rw [List.length_tail]; exact rfl, FT.of X.out.r0, X.out.r2, X.out.r1, X.out.below⟩)
      · obtain ⟨ts, hts⟩ : ∃ x, textS D b.nicA b.nicL = x := ⟨_, rfl⟩
        have HE : RowKit.Hid (actF b F E D M 5 es = ⟨b, F, D, M, ts, true⟩) := Lib.hid (by simp [actF, goV, Int.not_lt.2 h1, Int.not_lt.2 h2, hte, hts])
        have g1 : decide ((1 : Int) ≤ b.nicL) = true := decide_eq_true (by omega)
        have g2 : decide (b.nicL ≤ 64) = true := decide_eq_true (by omega)
        have g3 : IntKind.i64.wrap b.nicL = b.nicL := by rw [IntKind.wrap_i64]; omega
        have c68 : RowKit.Hid (∀ w, Below W.heap.size W w → Calls Try.prog 68 #[.agg (ramC (.slice p1 D.length c1) (.slice q1 M.length d1) E), .int .u64 b.nicA, .int .i64 b.nicL] w fun e w' => e = .returned (.tuple #[.string ts, .int .i64 0]) ∧ Below w.heap.size w w') := Lib.hid fun w h => by
          have k := rtext_all (.slice p1 D.length c1) D (.slice q1 M.length d1) (.int .u64 E) b.nicA b.nicL w (HDD.out _ h) HB.out.1.nicA.1 HB.out.1.nicA.2 (by omega) (by omega)
          rw [hts, hte] at k
          exact k
        have m_l := X.out.b6.cell_nicL
        have m_a := X.out.b6.cell_nicA
        clear hte hts h1 h2
        go_upto_region 19 with (first | (with_reducible refine wpList_load_by rfl rfl (ram_load X.out.g5) rfl ?_) | (go_at_call 68; (with_reducible refine (c68.out _ X.out.below).mono ?_); rintro e wn ⟨rfl, kk⟩; have X := Lib.hid (X.out.next kk); clear kk) | fail)
        clear m_k m_l m_a g1 g2 g3
        have X0 := X
        refine dr (fun w => w.heap[zb]? = wn.heap[zb]? ∧ w.heap[zm]? = wn.heap[zm]?) fun wz hzz => ?_
        have X := Lib.hid (X0.out.next hzz)
        have hS : wz.heap[zb]? = wn.heap[zb]? ∧ wz.heap[zm]? = wn.heap[zm]? := ⟨hzz.block _ X0.out.b1.lt, hzz.block _ (Array.getElem?_eq_some_iff.1 X0.out.g0).1⟩
        clear hzz
        refine tl 0 hS (fun w hw => Box.load (hw.1.trans X0.out.b1)) ?_
        refine tl 1 hS (fun w hw => ram_load (hw.2.trans X0.out.g0)) ?_
        refine tk 2 hS ?_
        refine hs 3 (store_box _ _ _ _ X.out.b3 (bdC_size _)) fun wy hw => ?_
        have X := Lib.hid (X.out.p3 hw)
        refine ⟨⟨X.out.b1.trans X0.out.b1.symm, X.out.g0.trans X0.out.g0.symm⟩, fun hS => ?_⟩
        clear hw
        refine hs 4 (ram_store X.out.g2 rfl) fun wy hw => ?_
        have X := Lib.hid (X.out.p2 hw)
        refine ⟨⟨X.out.b1.trans X0.out.b1.symm, X.out.g0.trans X0.out.g0.symm⟩, fun hS => ?_⟩
        clear hw
        refine tk 5 hS ?_
        refine tk 6 hS ?_
        refine wpAnyH_done (by kernel_rfl) ?_ _
        go_wp2_with fail
        exact bodyPost_ret (v := .tuple #[bdV _, .agg (ramC _ _ _), .string _, .bool _]) (results_act Try.results53 _ _ (W.heap.size + 1 + 1 + 1) (W.heap.size + 1 + 1 + 1 + 1) _ _ _ _ _ _ rfl X.out.b3 rfl X.out.g2 rfl rfl) rfl (by rw [HE.out]; first | exact ⟨_, _, _, _, rfl, FT.of X.out.r2, X.out.r1, X.out.r0, X.out.below⟩ | exact ⟨_, _, _, _, by rw [List.length_tail]; exact rfl, FT.of X.out.r0, X.out.r2, X.out.r1, X.out.below⟩)
    · have HE : RowKit.Hid (actF b F E D M k es = ⟨b, F, D, M, ⟨#[]⟩, false⟩) := Lib.hid (by simp [actF, k1, k2, k3, k4, k5])
      have e1 : (k == 1) = false := beq_eq_false_iff_ne.2 k1
      have e2 : (k == 2) = false := beq_eq_false_iff_ne.2 k2
      have e3 : (k == 3) = false := beq_eq_false_iff_ne.2 k3
      have e4 : (k == 4) = false := beq_eq_false_iff_ne.2 k4
      have e5 : (k == 5) = false := beq_eq_false_iff_ne.2 k5
      clear k1 k2 k3 k4 k5
      go_upto_region 20 with (fail)
      clear m_k
      generalize wc = wn at X ⊢
      have X0 := X
      refine dr (fun w => w.heap[zb]? = wn.heap[zb]? ∧ w.heap[zm]? = wn.heap[zm]?) fun wz hzz => ?_
      have X := Lib.hid (X0.out.next hzz)
      have hS : wz.heap[zb]? = wn.heap[zb]? ∧ wz.heap[zm]? = wn.heap[zm]? := ⟨hzz.block _ X0.out.b1.lt, hzz.block _ (Array.getElem?_eq_some_iff.1 X0.out.g0).1⟩
      clear hzz
      refine tl 0 hS (fun w hw => Box.load (hw.1.trans X0.out.b1)) ?_
      refine tl 1 hS (fun w hw => ram_load (hw.2.trans X0.out.g0)) ?_
      refine hs 2 (store_box _ _ _ _ X.out.b3 (bdC_size _)) fun wy hw => ?_
      have X := Lib.hid (X.out.p3 hw)
      refine ⟨⟨X.out.b1.trans X0.out.b1.symm, X.out.g0.trans X0.out.g0.symm⟩, fun hS => ?_⟩
      clear hw
      refine hs 3 (ram_store X.out.g2 rfl) fun wy hw => ?_
      have X := Lib.hid (X.out.p2 hw)
      refine ⟨⟨X.out.b1.trans X0.out.b1.symm, X.out.g0.trans X0.out.g0.symm⟩, fun hS => ?_⟩
      clear hw
      refine tk 4 hS ?_
      refine tk 5 hS ?_
      refine wpAnyH_done (by kernel_rfl) ?_ _
      go_wp2_with fail
      exact bodyPost_ret (v := .tuple #[bdV _, .agg (ramC _ _ _), .string _, .bool _]) (results_act Try.results53 _ _ (W.heap.size + 1 + 1 + 1) (W.heap.size + 1 + 1 + 1 + 1) _ _ _ _ _ _ rfl X.out.b3 rfl X.out.g2 rfl rfl) rfl (by rw [HE.out]; first | exact ⟨_, _, _, _, rfl, FT.of X.out.r2, X.out.r1, X.out.r0, X.out.below⟩ | exact ⟨_, _, _, _, by rw [List.length_tail]; exact rfl, FT.of X.out.r0, X.out.r2, X.out.r1, X.out.below⟩)

end Go.Proofs.Ytnedhjaphfjdmaa
