/- Small calls of the bus. -/
import Derived.Test.YtnedhjaphfjdmaaYBM
import Derived.Test.YtnedhjaphfjdmaaYDF
import Derived.Test.YtnedhjaphfjdmaaYPI
import Derived.Test.YtnedhjaphfjdmaaYPK
namespace Go.Proofs.Ytnedhjaphfjdmaa
open Go.RowKit Go.Deep Go.Joins
def ofB (t : Int) : Bool := decide (201326592 ≤ t) && decide (t < 205520896)
theorem of_any (t : Int) (W : World) : Calls Try.prog 35 #[.int .u64 t] W fun e W' => e = .returned (.bool (ofB t)) ∧ W = W' := by
  unfold ofB
  by_cases h : 201326592 ≤ t
  · have h1 : decide ((201326592 : Int) ≤ t) = true := decide_eq_true h
    rw [h1]
    by_cases h2 : t < 205520896
    · have h3 : decide (t < (205520896 : Int)) = true := decide_eq_true h2
      rw [h3]
      go_enter Try.func35, Try.ntmps35
      go_wp2_with fail
      go_ret
      exact ⟨rfl, rfl⟩
    · have h3 : decide (t < (205520896 : Int)) = false := decide_eq_false h2
      rw [h3]
      go_enter Try.func35, Try.ntmps35
      go_wp2_with fail
      go_ret
      exact ⟨rfl, rfl⟩
  · have h1 : decide ((201326592 : Int) ≤ t) = false := decide_eq_false h
    rw [h1]
    go_enter Try.func35, Try.ntmps35
    go_wp2_with fail
    go_ret
    exact ⟨rfl, rfl⟩
def okB (s : Int) : Bool := s == 1 || s == 2 || s == 4 || s == 8
theorem ok_any (s : Int) (W : World) : Calls Try.prog 32 #[.int .i64 s] W fun e W' => e = .returned (.bool (okB s)) ∧ W = W' := by
  unfold okB
  by_cases h1 : s = 1
  · subst h1
    go_enter Try.func32, Try.ntmps32
    go_wp2_with fail
    go_ret
    exact ⟨rfl, rfl⟩
  by_cases h2 : s = 2
  · subst h2
    go_enter Try.func32, Try.ntmps32
    go_wp2_with fail
    go_ret
    exact ⟨rfl, rfl⟩
  by_cases h4 : s = 4
  · subst h4
    go_enter Try.func32, Try.ntmps32
    go_wp2_with fail
    go_ret
    exact ⟨rfl, rfl⟩
  have e1 : (s == 1) = false := beq_eq_false_iff_ne.2 h1
  have e2 : (s == 2) = false := beq_eq_false_iff_ne.2 h2
  have e4 : (s == 4) = false := beq_eq_false_iff_ne.2 h4
  obtain ⟨q, hq⟩ : ∃ q, (s == 8) = q := ⟨_, rfl⟩
  rw [e1, e2, e4, hq]
  have HQ := hq
  clear h1 h2 h4
  go_enter Try.func32, Try.ntmps32
  go_wp2_with fail
  go_ret
  exact ⟨rfl, rfl⟩
/-- The machine's block turned, and nothing else that was there. -/
def Chg (W W' : World) (z : Nat) (m : Mc) : Prop := ∃ wx, Below W.heap.size W wx ∧ W' = wx.setRow z (mcC m)
theorem Chg.box {W W' : World} {z : Nat} {m m' : Mc} (k : MBox W z m) (h : Chg W W' z m') : MBox W' z m' := by
  obtain ⟨wx, hb, hw⟩ := h
  exact (k.next hb).put hw
theorem Chg.touch {W W' : World} {z : Nat} {m' : Mc} (h : Chg W W' z m') : Touch W W' (fun k => k = z) := by
  obtain ⟨wx, hb, rfl⟩ := h
  exact (touch_of_below hb (fun k => k = z)).setRow (.inl rfl) _
theorem Chg.none {W W' : World} {z : Nat} {m : Mc} (k : MBox W z m) (hb : Below W.heap.size W W') : Chg W W' z m := ⟨W', hb, (setRow_self W' z _ 42 (0, 0) (k.next hb)).symm⟩
abbrev plZ : Array Value := #[.int .u32 0, .int .u32 0, .int .u32 0, .int .u32 0, .int .u32 0, .int .u32 0, .int .u32 0, .int .u32 0, .int .u32 0]
abbrev plZO : Obj := .cells plZ 33
theorem Mem.newP {W w : World} {l : List (Nat × Array Value × Nat)} {r : List (Nat × Value × Nat × List Value)} (h : Mem W w l r) : Mem W (w.alloc plZO) ((w.heap.size, plZ, 33) :: l) r := h.new _ 33 (by decide)
theorem pl_store {w : World} {g : Nat} {old : Array Value} (p : Pl) (h : w.heap[g]? = some (.cells old 33 (0, 0))) (ho : old.size = 9) : (Instr.storeAt 33 (.pointer (some ⟨g, 0, none⟩)) (.agg (plC p))).run Try.prog w = .ok () (w.setRow g (plC p)) := Pc.store_box w g old p h ho
theorem pl_load {w : World} {g : Nat} {p : Pl} (h : w.heap[g]? = some (.cells (plC p) 33 (0, 0))) : (Instr.loadAt 33 (.pointer (some ⟨g, 0, none⟩))).run Try.prog w = .ok (.agg (plC p)) w := Pc.Box.load h
theorem calls_pld {f : FuncId} {args : Array Value} {w : World} {p : Pl} {n : Int} {ok : Bool} (h : Calls Try.prog f args w fun e w' => e = .returned (.tuple #[.agg (plC p), .int .u64 n, .bool ok]) ∧ Below w.heap.size w w') : Calls Try.prog f args w fun e w' => ∃ u, e = .returned u ∧ (u = .tuple #[.agg (plC p), .int .u64 n, .bool ok] ∧ Below w.heap.size w w') := h.mono fun _ _ h => ⟨_, h.1, rfl, h.2⟩
theorem pld_none (h : Pl) (s t z : Int) (hf : (Pc.ldF h s t z).2.2 = false) : (Pc.ldF h s t z).2.1 = 0 := by
  unfold Pc.ldF at hf ⊢
  repeat' split
  all_goals first | rfl | simp_all
set_option maxRecDepth 100000 in
set_option maxHeartbeats 2000000 in
theorem lp_any (z : Nat) (m : Mc) (F : List ByteArray) (t s : Int) (W : World) (K : MBox W z m) (hl : m.b.fn = F.length) : Calls Try.prog 41 #[.pointer (some ⟨z, 52, none⟩), .int .u64 t, .int .i64 s] W fun e W' =>
    e = .returned (.tuple #[.int .u64 (Pc.ldF m.b.pl (sourcesV m.b F) t s).2.1, .bool (Pc.ldF m.b.pl (sourcesV m.b F) t s).2.2]) ∧ Chg W W' z (if (Pc.ldF m.b.pl (sourcesV m.b F) t s).2.2 = true then { m with b := { m.b with pl := (Pc.ldF m.b.pl (sourcesV m.b F) t s).1 } } else m) := by
  have C1 := Lib.hid (fun W => sources_any m.b F W hl)
  have C2 := Lib.hid (fun W => Pc.load_any m.b.pl (sourcesV m.b F) t s W)
  have HN := Lib.hid (pld_none m.b.pl (sourcesV m.b F) t s)
  clear hl
  generalize Pc.ldF m.b.pl (sourcesV m.b F) t s = R at C2 HN ⊢
  generalize sourcesV m.b F = sv at C1 C2
  obtain ⟨q, n, ok⟩ := R
  dsimp only at C2 HN ⊢
  replace K := Lib.hid K
  go_enter Try.func41, Try.ntmps41
  have X := Lib.hid (Mem.start W)
  go_upto_region 1 with (fail)
  go_cut [8, 9, 10] (fun s8 s9 s10 wx => ∃ g, s8 = .pointer (some ⟨g, 0, none⟩) ∧ s9 = .int .u64 n ∧ s10 = .bool ok ∧ RowKit.Hid (Mem W wx [(g, plC q, 33)] []))
  case first =>
    refine dr (fun w => MBox w z m) fun wz hzz => ?_
    replace X := Lib.hid (X.out.next hzz)
    clear hzz
    have hS := K.out.next X.out.below
    refine tk 0 hS ?_
    refine tk 1 hS ?_
    refine tk 2 hS ?_
    refine tl 3 hS (fun w hw => MBox.load_pl hw) ?_
    refine tk 4 hS ?_
    refine tk 5 hS ?_
    refine tl 6 hS (fun w hw => MBox.load_b hw) ?_
    refine tk 8 hS ?_
    refine tk 9 hS ?_
    refine two 7 15 (cc 7 (calls_told (C1.out _)) ?_ ?_)
    · rintro v' wb ⟨rfl, kk⟩
      have X := Lib.hid (X.out.next kk)
      refine ⟨K.out.next X.out.below, fun hS => ?_⟩
      clear kk
      simp only [puts]
      refine two 10 15 (cc 10 (calls_pld (C2.out _)) ?_ ?_)
      · rintro v' wb ⟨rfl, kk⟩
        have X := Lib.hid (X.out.next kk)
        refine ⟨K.out.next X.out.below, fun hS => ?_⟩
        clear kk
        simp only [puts]
        refine tk 11 hS ?_
        refine tk 12 hS ?_
        refine tk 13 hS ?_
        refine tk 14 hS ?_
        refine ho 15 (K.out.next X.out.newP.below) ?_
        have X := Lib.hid X.out.newP
        generalize wb.heap.size = g at X ⊢
        generalize wb.alloc plZO = wn at X ⊢
        have hS := K.out.next X.out.below
        refine hs 16 (pl_store q X.out.g0 rfl) fun wy hw => ?_
        have X := Lib.hid (X.out.p0 hw)
        refine ⟨K.out.next X.out.below, fun hS => ?_⟩
        clear hw
        refine tk 17 hS ?_
        refine tk 18 hS ?_
        refine wpAnyH_done (by kernel_rfl) ?_ _
        go_wp2_with fail
        go_meet
        exact ⟨_, rfl, rfl, rfl, X⟩
      · refine al 15 (K.out.next X.out.newP.below) ?_ AllReadyH.nil
        have X := Lib.hid X.out.newP
        generalize wb.heap.size = g at X ⊢
        generalize wb.alloc plZO = wn at X ⊢
        have hS := K.out.next X.out.below
        refine hc 10 (calls_pld (C2.out _)) ?_
        rintro v' wb ⟨rfl, kk⟩
        have X := Lib.hid (X.out.next kk)
        refine ⟨K.out.next X.out.below, fun hS => ?_⟩
        clear kk
        simp only [puts]
        refine tk 11 hS ?_
        refine tk 12 hS ?_
        refine tk 13 hS ?_
        refine tk 14 hS ?_
        refine hs 16 (pl_store q X.out.g0 rfl) fun wy hw => ?_
        have X := Lib.hid (X.out.p0 hw)
        refine ⟨K.out.next X.out.below, fun hS => ?_⟩
        clear hw
        refine tk 17 hS ?_
        refine tk 18 hS ?_
        refine wpAnyH_done (by kernel_rfl) ?_ _
        go_wp2_with fail
        go_meet
        exact ⟨_, rfl, rfl, rfl, X⟩
    · refine al 15 (K.out.next X.out.newP.below) ?_ AllReadyH.nil
      have X := Lib.hid X.out.newP
      generalize wz.heap.size = g at X ⊢
      generalize wz.alloc plZO = wn at X ⊢
      have hS := K.out.next X.out.below
      refine hc 7 (calls_told (C1.out _)) ?_
      rintro v' wb ⟨rfl, kk⟩
      have X := Lib.hid (X.out.next kk)
      refine ⟨K.out.next X.out.below, fun hS => ?_⟩
      clear kk
      simp only [puts]
      refine hc 10 (calls_pld (C2.out _)) ?_
      rintro v' wb ⟨rfl, kk⟩
      have X := Lib.hid (X.out.next kk)
      refine ⟨K.out.next X.out.below, fun hS => ?_⟩
      clear kk
      simp only [puts]
      refine tk 11 hS ?_
      refine tk 12 hS ?_
      refine tk 13 hS ?_
      refine tk 14 hS ?_
      refine hs 16 (pl_store q X.out.g0 rfl) fun wy hw => ?_
      have X := Lib.hid (X.out.p0 hw)
      refine ⟨K.out.next X.out.below, fun hS => ?_⟩
      clear hw
      refine tk 17 hS ?_
      refine tk 18 hS ?_
      refine wpAnyH_done (by kernel_rfl) ?_ _
      go_wp2_with fail
      go_meet
      exact ⟨_, rfl, rfl, rfl, X⟩
  case rest =>
    obtain ⟨g, rfl, rfl, rfl, X⟩ := hcut
    cases ok
    · obtain rfl : n = 0 := HN.out rfl
      go_wp2_with fail
      go_ret2
      exact ⟨rfl, Chg.none K.out X.out.below⟩
    · have hS := K.out.next X.out.below
      go_wp2_with (first | (with_reducible refine wpList_load_by rfl rfl (pl_load X.out.g0) rfl ?_) | (with_reducible refine wpList_store_by rfl rfl (MBox.store_pl hS q) rfl rfl ?_) | fail)
      go_ret2
      exact ⟨rfl, _, X.out.below, rfl⟩
set_option maxRecDepth 100000 in
set_option maxHeartbeats 2000000 in
theorem sp_any (z : Nat) (m : Mc) (t s v : Int) (W : World) (K : MBox W z m) (hc : Pc.U32 m.b.pl.c) : Calls Try.prog 36 #[.pointer (some ⟨z, 52, none⟩), .int .u64 t, .int .i64 s, .int .u64 v] W fun e W' =>
    e = .returned (.bool (Pc.stF m.b.pl t s v).2) ∧ Chg W W' z (if (Pc.stF m.b.pl t s v).2 = true then { m with b := { m.b with pl := (Pc.stF m.b.pl t s v).1 } } else m) := by
  have C2 := Lib.hid (fun W => Pc.store_any m.b.pl t s v hc W)
  clear hc
  generalize Pc.stF m.b.pl t s v = R at C2 ⊢
  obtain ⟨q, ok⟩ := R
  dsimp only at C2 ⊢
  replace K := Lib.hid K
  go_enter Try.func36, Try.ntmps36
  have X := Lib.hid (Mem.start W)
  go_upto_region 2 with (first | (with_reducible refine wpList_load_by rfl rfl (MBox.load_pl (K.out.next X.out.below)) rfl ?_) | (go_at_call 56; (with_reducible refine (C2.out _).mono ?_); rintro e wb ⟨rfl, kk⟩; have X := Lib.hid (X.out.next kk); clear kk) | (with_reducible refine wpList_store_by rfl rfl (pl_store q X.out.newP.g0 rfl) rfl rfl ?_) | fail)
  have X := Lib.hid (X.out.newP.p0 (cs' := plC q) rfl)
  generalize wb.heap.size = g at X ⊢
  generalize (wb.alloc plZO).setRow g (plC q) = wy at X ⊢
  have hS := K.out.next X.out.below
  cases ok
  · go_wp2_with fail
    go_ret
    exact ⟨rfl, Chg.none K.out X.out.below⟩
  · go_wp2_with (first | (with_reducible refine wpList_load_by rfl rfl (pl_load X.out.g0) rfl ?_) | (with_reducible refine wpList_store_by rfl rfl (MBox.store_pl hS q) rfl rfl ?_) | fail)
    go_ret
    exact ⟨rfl, _, X.out.below, rfl⟩

end Go.Proofs.Ytnedhjaphfjdmaa
