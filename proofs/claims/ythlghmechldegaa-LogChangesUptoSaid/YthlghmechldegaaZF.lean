/- One entry laid, the program. -/
import Derived.Test.YthlghmechldegaaZE
import Derived.Test.YthlghmechldegaaDY
namespace Go.Proofs.Ythlghmechldegaa
open Go.RowKit Go.Deep Go.Joins
set_option maxRecDepth 100000
/-- A log, an entry and a result in a function's own blocks. -/
structure Ly (W w : World) (l : Lg) (e : En) (r : Lg) : Prop where
  box : LBox w W.heap.size l
  e : EBox w (W.heap.size + 1) e
  res : LBox w (W.heap.size + 1 + 1) r
  below : Below W.heap.size W w
theorem Ly.start (W : World) (l : Lg) (e : En) (r : Lg) : Ly W (((W.alloc (lgO l)).alloc (enO e)).alloc (lgO r)) l e r := by
  have e1 : (W.alloc (lgO l)).heap.size = W.heap.size + 1 := by simp
  have e2 : ((W.alloc (lgO l)).alloc (enO e)).heap.size = W.heap.size + 1 + 1 := by simp
  refine ⟨((LBox.new W l).next (below1 _ _)).next (below1 _ _), ?_, ?_, ((below1 W _).alloc (by simp) _).alloc (by simp; omega) _⟩
  · have := (EBox.new (W.alloc (lgO l)) e).next (below1 _ (lgO r)); rwa [e1] at this
  · have := LBox.new ((W.alloc (lgO l)).alloc (enO e)) r; rwa [e2] at this
theorem Ly.next {W w w' : World} {l : Lg} {e : En} {r : Lg} (k : Ly W w l e r) (j : Below w.heap.size w w') : Ly W w' l e r := ⟨k.box.next j, k.e.next j, k.res.next j, below_then k.below (Nat.le_refl _) j⟩
/-- What laying leaves: its list has turned, and nothing else that was there. -/
def Laid (W : World) (B : Nat) (base bt : Int) (s : Nat → Bool) (q : Option Addr) (k c : Nat) (M : List En) (r : Ending) (W' : World) : Prop :=
  ∃ q' c', r = .returned (lgV ⟨base, bt, s, .slice q' M.length c'⟩) ∧ World.ownsRow W' B 36 13 (.slice q' M.length c') M.length (eC M) ∧ Touch W W' (fun x => some x = (Value.slice q k c).ownBlock)
theorem layF_stay1 {base : Int} {M : List En} {i : Int} {e : En} (h : i ≤ base) : layF base M i e = M := if_pos h
theorem layF_stay2 {base : Int} {M : List En} {i : Int} {e : En} (h : ¬ i ≤ base) (h2 : (i - base - 1).toNat < M.length) (h3 : M[(i - base - 1).toNat].term = e.term) : layF base M i e = M := by
  unfold layF
  rw [if_neg h, dif_pos h2, if_pos h3]
theorem layF_turn {base : Int} {M : List En} {i : Int} {e : En} (h : ¬ i ≤ base) (h2 : ∀ h : (i - base - 1).toNat < M.length, M[(i - base - 1).toNat].term ≠ e.term) : layF base M i e = M.take (i - base - 1).toNat ++ [e] := by
  unfold layF
  rw [if_neg h]
  split
  · rename_i h3
    rw [if_neg (h2 h3)]
  · rfl
set_option maxHeartbeats 8000000 in
theorem lay_any (base bt : Int) (s : Nat → Bool) (M : List En) (B k c : Nat) (q : Option Addr) (i : Int) (e : En) (W : World) (ho : World.ownsRow W B 36 13 (.slice q k c) k (eC M)) (hB : B ≤ W.heap.size) (h0 : 0 ≤ base) (h1 : base ≤ 1152921504606846976) (hi0 : 0 ≤ i) (hi1 : i ≤ base + k + 1) (hn : (k + 1) * 64 ≤ 140737488355328) :
    Calls Try.prog 45 #[lgV ⟨base, bt, s, .slice q k c⟩, .int .u64 i, enV e] W (Laid W B base bt s q k c (layF base M i e)) := by
  have hkM : M.length = k := by have := ho.1; rw [eC_length] at this; omega
  subst hkM
  have HO := Lib.hid ho
  have hcap := owns_cap ho
  have hat : EAt W (.slice q M.length c) M := reads_of_owns ho
  clear ho
  by_cases g1 : i ≤ base
  · rw [layF_stay1 g1]
    have q1 : decide (i ≤ base) = true := decide_eq_true g1
    clear hat
    go_enter Try.func45, Try.ntmps45
    go_upto_region 1 with (fail)
    have X := Lib.hid (show Ly W (((W.alloc (lgO ⟨base, bt, s, .slice q M.length c⟩)).alloc (enO e)).alloc (Obj.cells zlgC 27)) ⟨base, bt, s, .slice q M.length c⟩ e zeroLg from Ly.start W _ e zeroLg)
    generalize ((W.alloc (lgO ⟨base, bt, s, .slice q M.length c⟩)).alloc (enO e)).alloc (Obj.cells zlgC 27) = w0 at *

    have HF := Lib.hid (X.out.res.full ⟨base, bt, s, .slice q M.length c⟩ ⟨_, _, _, rfl⟩)
    have HRes := Lib.hid (X.out.res.mine ⟨base, bt, s, .slice q M.length c⟩)
    have HT := Lib.hid ((touch_of_below X.out.below (fun x => some x = (Value.slice q M.length c).ownBlock)).setRow (g := W.heap.size + 1 + 1) (.inr (by omega)) (lgC ⟨base, bt, s, .slice q M.length c⟩))
    have HOO := Lib.hid (owns_touch (owns_below HO.out X.out.below) ((Touch.refl w0 (fun x => x = W.heap.size + 1 + 1)).setRow (.inl rfl) (lgC ⟨base, bt, s, .slice q M.length c⟩)) (fun g hg e => by have := (owns_lt HO.out hg).2; omega))
    go_wp2_with (first | (with_reducible refine wpList_load_by rfl rfl X.out.box.load rfl ?_) | (with_reducible refine wpList_load_by rfl rfl X.out.box.base rfl ?_) | (with_reducible refine wpList_load_wanted rfl rfl X.out.e.term rfl ?_) | (with_reducible refine wpList_store_by rfl rfl HF.out rfl rfl ?_) | fail)
    exact bodyPost_ret (v := lgV ⟨base, bt, s, .slice q M.length c⟩) (results_lg1 Try.results45 _ _ (W.heap.size + 1 + 1) _ rfl HRes.out) rfl ⟨q, c, rfl, HOO.out, HT.out⟩
  · have q1 : decide (i ≤ base) = false := decide_eq_false g1
    have CA := Lib.hid (fun w (hw : Below W.heap.size W w) => at_any ⟨base, bt, s, .slice q M.length c⟩ M i w (hat.below hw) h0 h1 hi0 (by omega) (by omega))
    obtain ⟨d, hd⟩ : ∃ d, (i - base - 1).toNat = d := ⟨_, rfl⟩
    have hdk : d ≤ M.length := by omega
    have hid : i = base + d + 1 := by omega
    have CU := Lib.hid (show ∀ w, Below W.heap.size W w → Calls Try.prog 41 #[lgV ⟨base, bt, s, .slice q M.length c⟩, .int .u64 (IntKind.u64.wrap (i - 1))] w fun r W' => r = .returned (.int .i64 d) ∧ Below w.heap.size w W' from fun w hw => by
      have e1 : IntKind.u64.wrap (i - 1) = i - 1 := by rw [IntKind.wrap_u64]; omega
      rw [e1]
      have h := upto_any ⟨base, bt, s, .slice q M.length c⟩ M (i - 1) w (hat.below hw) h0 h1 (by omega) (by omega) (by omega)
      rwa [show upN ⟨base, bt, s, .slice q M.length c⟩ M (i - 1) = d from by unfold upN; dsimp only; split <;> omega] at h)
    by_cases hdl : d < M.length
    · have HV : atV ⟨base, bt, s, .slice q M.length c⟩ M i = (M[d], true) := by
        unfold atV
        rw [dif_pos (by dsimp only; omega)]
        simp only [hd]
      rw [HV] at CA
      dsimp only at CA
      by_cases ht : M[d].term = e.term
      · rw [layF_stay2 g1 (by omega) (by simp only [hd]; exact ht)]
        clear HV CU hat hd hid
        obtain ⟨f, hf⟩ : ∃ f, f = M[d] := ⟨_, rfl⟩
        rw [← hf] at CA ht
        have q2 : (f.term == e.term) = true := by rw [beq_iff_eq]; exact ht
        clear hf ht
        go_enter Try.func45, Try.ntmps45
        go_upto_region 1 with (fail)
        have X := Lib.hid (show Ly W (((W.alloc (lgO ⟨base, bt, s, .slice q M.length c⟩)).alloc (enO e)).alloc (Obj.cells zlgC 27)) ⟨base, bt, s, .slice q M.length c⟩ e zeroLg from Ly.start W _ e zeroLg)
        generalize ((W.alloc (lgO ⟨base, bt, s, .slice q M.length c⟩)).alloc (enO e)).alloc (Obj.cells zlgC 27) = w0 at *

        go_upto_region 4 with (first | (with_reducible refine wpList_load_by rfl rfl X.out.box.load rfl ?_) | (with_reducible refine wpList_load_by rfl rfl X.out.box.base rfl ?_) | (go_at_call 13; (with_reducible refine (CA.out _ X.out.below).mono ?_); rintro r wb ⟨rfl, kk⟩; have X := Lib.hid (X.out.next kk); clear kk) | (with_reducible refine wpList_store_by rfl rfl (ent_new _ _) rfl rfl ?_) | fail)
        have Y := Lib.hid (EBox.new wb f)
        have X := Lib.hid (X.out.next (below1 wb (enO f)))
        generalize wb.heap.size = y at *
        generalize wb.alloc (enO f) = w5 at *
        try simp only [put_none]

        have HF := Lib.hid (X.out.res.full ⟨base, bt, s, .slice q M.length c⟩ ⟨_, _, _, rfl⟩)
        have HRes := Lib.hid (X.out.res.mine ⟨base, bt, s, .slice q M.length c⟩)
        have HT := Lib.hid ((touch_of_below X.out.below (fun x => some x = (Value.slice q M.length c).ownBlock)).setRow (g := W.heap.size + 1 + 1) (.inr (by omega)) (lgC ⟨base, bt, s, .slice q M.length c⟩))
        have HOO := Lib.hid (owns_touch (owns_below HO.out X.out.below) ((Touch.refl w5 (fun x => x = W.heap.size + 1 + 1)).setRow (.inl rfl) (lgC ⟨base, bt, s, .slice q M.length c⟩)) (fun g hg e => by have := (owns_lt HO.out hg).2; omega))
        go_wp2_with (first | (with_reducible refine wpList_load_by rfl rfl X.out.box.load rfl ?_) | (with_reducible refine wpList_load_by rfl rfl X.out.box.base rfl ?_) | (with_reducible refine wpList_load_wanted rfl rfl Y.out.term rfl ?_) | (with_reducible refine wpList_load_wanted rfl rfl X.out.e.term rfl ?_) | (with_reducible refine wpList_store_by rfl rfl HF.out rfl rfl ?_) | fail)
        exact bodyPost_ret (v := lgV ⟨base, bt, s, .slice q M.length c⟩) (results_lg1 Try.results45 _ _ (W.heap.size + 1 + 1) _ rfl HRes.out) rfl ⟨q, c, rfl, HOO.out, HT.out⟩
      · rw [layF_turn g1 (fun h => by simp only [hd]; exact ht)]
        rw [hd]
        clear HV hat hd hid
        obtain ⟨f, hf⟩ : ∃ f, f = M[d] := ⟨_, rfl⟩
        rw [← hf] at CA ht
        have q2 : (f.term == e.term) = false := by rw [beq_eq_false_iff_ne]; exact ht
        clear hf ht
        go_enter Try.func45, Try.ntmps45
        go_upto_region 1 with (fail)
        have X := Lib.hid (show Ly W (((W.alloc (lgO ⟨base, bt, s, .slice q M.length c⟩)).alloc (enO e)).alloc (Obj.cells zlgC 27)) ⟨base, bt, s, .slice q M.length c⟩ e zeroLg from Ly.start W _ e zeroLg)
        generalize ((W.alloc (lgO ⟨base, bt, s, .slice q M.length c⟩)).alloc (enO e)).alloc (Obj.cells zlgC 27) = w0 at *

        go_upto_region 4 with (first | (with_reducible refine wpList_load_by rfl rfl X.out.box.load rfl ?_) | (with_reducible refine wpList_load_by rfl rfl X.out.box.base rfl ?_) | (go_at_call 13; (with_reducible refine (CA.out _ X.out.below).mono ?_); rintro r wb ⟨rfl, kk⟩; have X := Lib.hid (X.out.next kk); clear kk) | (with_reducible refine wpList_store_by rfl rfl (ent_new _ _) rfl rfl ?_) | fail)
        have Y := Lib.hid (EBox.new wb f)
        have X := Lib.hid (X.out.next (below1 wb (enO f)))
        generalize wb.heap.size = y at *
        generalize wb.alloc (enO f) = w5 at *
        try simp only [put_none]

        have HML := Lib.hid (show (M.take d ++ [e]).length = d + 1 from by simp; omega)
        have HO0 := HO
        go_upto_region 6 with (first | (with_reducible refine wpList_load_wanted rfl rfl Y.out.term rfl ?_) | (with_reducible refine wpList_load_wanted rfl rfl X.out.e.term rfl ?_) | fail)
        refine drK (fun w => LBox w W.heap.size ⟨base, bt, s, .slice q M.length c⟩ ∧ EBox w (W.heap.size + 1) e) 11 fun w3 hzz => ?_
        have X := Lib.hid (X.out.next hzz)
        clear hzz Y
        have hS := And.intro X.out.box X.out.e
        refine tkK 0 hS ?_
        refine tlK 1 hS (fun w hw => hw.1.list) ?_
        refine tlK 2 hS (fun w hw => hw.1.load) ?_
        refine tkK 3 hS ?_
        refine tkK 4 hS ?_
        refine tlK 7 hS (fun w hw => hw.2.load) ?_
        refine twoK 5 8 (opCall 5 (true_calls2 (CU.out _ X.out.below)) fun v wu hr => ?_) (opVal 8 (exec_be _ rfl rfl) ?_)
        · obtain ⟨rfl, kk⟩ := hr
          have X := Lib.hid (X.out.next kk)
          clear kk
          have hS := And.intro X.out.box X.out.e
          refine ⟨fun _ => hS, ?_⟩
          refine tkK 6 hS ?_ (hy := .inl ⟨by kernel_rfl, fun w _ => exec_shi rfl (slice_hi .i64 hdk hcap w) rfl rfl⟩)
          have HG := Lib.hid (heap_alloc_new wu (.cells (enC e) 36))
          have X6 := Lib.hid (X.out.next (below1 wu (.cells (enC e) 36)))
          refine oneK 8 (opVal 8 (exec_be _ rfl rfl) ⟨fun _ => And.intro X6.out.box X6.out.e, ?_⟩)
          have X := X6
          clear X6
          have HO := Lib.hid (owns_below HO.out X.out.below)
          have HBB := Lib.hid (Nat.le_trans hB X.out.below.size)
          generalize wu.heap.size = g at *
          generalize wu.alloc (.cells (enC e) 36) = w6 at *
          obtain ⟨q2, c2, w7, hrun, ho2, ht⟩ := app_ent (owns_take HO.out hdk) HG.out HBB.out (by omega)
          have HEB := Lib.hid (show ∀ g, (Value.slice q d c).ownBlock = some g → g < W.heap.size ∧ B ≤ g from fun g hg => by
            have h := HO0.out
            have e1 : (Value.slice q d c).ownBlock = (Value.slice q M.length c).ownBlock := by cases q <;> rfl
            rw [e1] at hg
            exact ⟨(owns_lt h hg).2, (owns_lt h hg).1⟩)
          have HKB := Lib.hid (show ∀ b, W.heap.size ≤ b → b < w6.heap.size → w7.heap[b]? = w6.heap[b]? from fun b hb hb2 => ht.block b hb2 fun hx => by have := (HEB.out b hx.symm).1; omega)
          have HBX := Lib.hid (show LBox w7 W.heap.size ⟨base, bt, s, .slice q M.length c⟩ from (HKB.out _ (Nat.le_refl _) X.out.box.lt).trans X.out.box)
          have HRX := Lib.hid (show LBox w7 (W.heap.size + 1 + 1) zeroLg from (HKB.out _ (by omega) X.out.res.lt).trans X.out.res)
          have HEX := Lib.hid (show EBox w7 (W.heap.size + 1) e from (HKB.out _ (by omega) X.out.e.lt).trans X.out.e)
          refine oneK 9 (opVal 9 (exec_app (v := .slice q d c) (u := .slice (some ⟨g, 0, none⟩) 1 1) rfl hrun rfl rfl) ⟨fun _ => And.intro HBX.out HEX.out, ?_⟩)
          have hS := And.intro HBX.out HEX.out
          have HT7 := Lib.hid (show Touch W w7 (fun x => some x = (Value.slice q M.length c).ownBlock) from (touch_of_below X.out.below _).trans (ht.mono fun x _ hx => by rw [show (Value.slice q d c).ownBlock = (Value.slice q M.length c).ownBlock from by cases q <;> rfl] at hx; exact hx))
          have HO2 := Lib.hid ho2
          clear hrun ho2 ht
          refine tkK 10 hS ?_
          refine hsK (HBX.out.putList _ _ _) fun wy hw => ?_
          subst hw
          refine doneK ?_ (by kernel_rfl) _
          have HB8 := Lib.hid (HBX.out.mine ⟨base, bt, s, .slice q2 (d + 1) c2⟩)
          have HR8 := Lib.hid (HRX.out.over (g := W.heap.size) (by omega) (lgC ⟨base, bt, s, .slice q2 (d + 1) c2⟩))
          have HO8 := Lib.hid (owns_same HO2.out (w' := w7.setRow W.heap.size (lgC ⟨base, bt, s, .slice q2 (d + 1) c2⟩)) fun x hx => setRow_other _ _ _ _ (fun e => own_not HO2.out HBX.out (by rw [hx, e])))
          have HT8 := Lib.hid (HT7.out.setRow (g := W.heap.size) (.inr (Nat.le_refl _)) (lgC ⟨base, bt, s, .slice q2 (d + 1) c2⟩))
          generalize w7.setRow W.heap.size (lgC ⟨base, bt, s, .slice q2 (d + 1) c2⟩) = w8 at *
          have HF := Lib.hid (HR8.out.full ⟨base, bt, s, .slice q2 (d + 1) c2⟩ ⟨_, _, _, rfl⟩)
          have HRes := Lib.hid (HR8.out.mine ⟨base, bt, s, .slice q2 (d + 1) c2⟩)
          have HT9 := Lib.hid (HT8.out.setRow (g := W.heap.size + 1 + 1) (.inr (by omega)) (lgC ⟨base, bt, s, .slice q2 (d + 1) c2⟩))
          have HO9 := Lib.hid (owns_same HO8.out (w' := w8.setRow (W.heap.size + 1 + 1) (lgC ⟨base, bt, s, .slice q2 (d + 1) c2⟩)) fun x hx => setRow_other _ _ _ _ (fun e => own_not HO8.out HR8.out (by rw [hx, e])))
          go_wp2_with (first | (with_reducible refine wpList_load_by rfl rfl HB8.out.load rfl ?_) | (with_reducible refine wpList_store_by rfl rfl HF.out rfl rfl ?_) | fail)
          exact bodyPost_ret (v := lgV ⟨base, bt, s, .slice q2 (d + 1) c2⟩) (results_lg1 Try.results45 _ _ (W.heap.size + 1 + 1) _ rfl HRes.out) rfl ⟨q2, c2, by rw [HML.out], by rw [HML.out]; exact HO9.out, HT9.out⟩
        · have HG := Lib.hid (heap_alloc_new w3 (.cells (enC e) 36))
          have X := Lib.hid (X.out.next (below1 w3 (.cells (enC e) 36)))
          refine ⟨fun _ => And.intro X.out.box X.out.e, ?_⟩
          generalize w3.heap.size = g at *
          generalize w3.alloc (.cells (enC e) 36) = w5 at *
          refine oneK 5 (opCall 5 (true_calls2 (CU.out _ X.out.below)) fun v w6 hr => ?_)
          obtain ⟨rfl, kk⟩ := hr
          have HG := Lib.hid ((kk.block g (Array.getElem?_eq_some_iff.1 HG.out).1).trans HG.out)
          have X := Lib.hid (X.out.next kk)
          clear kk
          have hS := And.intro X.out.box X.out.e
          refine ⟨fun _ => hS, ?_⟩
          have HO := Lib.hid (owns_below HO.out X.out.below)
          have HBB := Lib.hid (Nat.le_trans hB X.out.below.size)
          refine tkK 6 hS ?_ (hy := .inl ⟨by kernel_rfl, fun w _ => exec_shi rfl (slice_hi .i64 hdk hcap w) rfl rfl⟩)
          obtain ⟨q2, c2, w7, hrun, ho2, ht⟩ := app_ent (owns_take HO.out hdk) HG.out HBB.out (by omega)
          have HEB := Lib.hid (show ∀ g, (Value.slice q d c).ownBlock = some g → g < W.heap.size ∧ B ≤ g from fun g hg => by
            have h := HO0.out
            have e1 : (Value.slice q d c).ownBlock = (Value.slice q M.length c).ownBlock := by cases q <;> rfl
            rw [e1] at hg
            exact ⟨(owns_lt h hg).2, (owns_lt h hg).1⟩)
          have HKB := Lib.hid (show ∀ b, W.heap.size ≤ b → b < w6.heap.size → w7.heap[b]? = w6.heap[b]? from fun b hb hb2 => ht.block b hb2 fun hx => by have := (HEB.out b hx.symm).1; omega)
          have HBX := Lib.hid (show LBox w7 W.heap.size ⟨base, bt, s, .slice q M.length c⟩ from (HKB.out _ (Nat.le_refl _) X.out.box.lt).trans X.out.box)
          have HRX := Lib.hid (show LBox w7 (W.heap.size + 1 + 1) zeroLg from (HKB.out _ (by omega) X.out.res.lt).trans X.out.res)
          have HEX := Lib.hid (show EBox w7 (W.heap.size + 1) e from (HKB.out _ (by omega) X.out.e.lt).trans X.out.e)
          refine oneK 9 (opVal 9 (exec_app (v := .slice q d c) (u := .slice (some ⟨g, 0, none⟩) 1 1) rfl hrun rfl rfl) ⟨fun _ => And.intro HBX.out HEX.out, ?_⟩)
          have hS := And.intro HBX.out HEX.out
          have HT7 := Lib.hid (show Touch W w7 (fun x => some x = (Value.slice q M.length c).ownBlock) from (touch_of_below X.out.below _).trans (ht.mono fun x _ hx => by rw [show (Value.slice q d c).ownBlock = (Value.slice q M.length c).ownBlock from by cases q <;> rfl] at hx; exact hx))
          have HO2 := Lib.hid ho2
          clear hrun ho2 ht
          refine tkK 10 hS ?_
          refine hsK (HBX.out.putList _ _ _) fun wy hw => ?_
          subst hw
          refine doneK ?_ (by kernel_rfl) _
          have HB8 := Lib.hid (HBX.out.mine ⟨base, bt, s, .slice q2 (d + 1) c2⟩)
          have HR8 := Lib.hid (HRX.out.over (g := W.heap.size) (by omega) (lgC ⟨base, bt, s, .slice q2 (d + 1) c2⟩))
          have HO8 := Lib.hid (owns_same HO2.out (w' := w7.setRow W.heap.size (lgC ⟨base, bt, s, .slice q2 (d + 1) c2⟩)) fun x hx => setRow_other _ _ _ _ (fun e => own_not HO2.out HBX.out (by rw [hx, e])))
          have HT8 := Lib.hid (HT7.out.setRow (g := W.heap.size) (.inr (Nat.le_refl _)) (lgC ⟨base, bt, s, .slice q2 (d + 1) c2⟩))
          generalize w7.setRow W.heap.size (lgC ⟨base, bt, s, .slice q2 (d + 1) c2⟩) = w8 at *
          have HF := Lib.hid (HR8.out.full ⟨base, bt, s, .slice q2 (d + 1) c2⟩ ⟨_, _, _, rfl⟩)
          have HRes := Lib.hid (HR8.out.mine ⟨base, bt, s, .slice q2 (d + 1) c2⟩)
          have HT9 := Lib.hid (HT8.out.setRow (g := W.heap.size + 1 + 1) (.inr (by omega)) (lgC ⟨base, bt, s, .slice q2 (d + 1) c2⟩))
          have HO9 := Lib.hid (owns_same HO8.out (w' := w8.setRow (W.heap.size + 1 + 1) (lgC ⟨base, bt, s, .slice q2 (d + 1) c2⟩)) fun x hx => setRow_other _ _ _ _ (fun e => own_not HO8.out HR8.out (by rw [hx, e])))
          go_wp2_with (first | (with_reducible refine wpList_load_by rfl rfl HB8.out.load rfl ?_) | (with_reducible refine wpList_store_by rfl rfl HF.out rfl rfl ?_) | fail)
          exact bodyPost_ret (v := lgV ⟨base, bt, s, .slice q2 (d + 1) c2⟩) (results_lg1 Try.results45 _ _ (W.heap.size + 1 + 1) _ rfl HRes.out) rfl ⟨q2, c2, by rw [HML.out], by rw [HML.out]; exact HO9.out, HT9.out⟩
    · have HV : atV ⟨base, bt, s, .slice q M.length c⟩ M i = (zeroEn, false) := by
        unfold atV
        rw [dif_neg (by dsimp only; omega)]
      rw [HV] at CA
      dsimp only at CA
      rw [layF_turn g1 (fun h => absurd h (by omega))]
      rw [hd]
      clear HV hat hd hid
      generalize zeroEn = f at *
      go_enter Try.func45, Try.ntmps45
      go_upto_region 1 with (fail)
      have X := Lib.hid (show Ly W (((W.alloc (lgO ⟨base, bt, s, .slice q M.length c⟩)).alloc (enO e)).alloc (Obj.cells zlgC 27)) ⟨base, bt, s, .slice q M.length c⟩ e zeroLg from Ly.start W _ e zeroLg)
      generalize ((W.alloc (lgO ⟨base, bt, s, .slice q M.length c⟩)).alloc (enO e)).alloc (Obj.cells zlgC 27) = w0 at *

      go_upto_region 4 with (first | (with_reducible refine wpList_load_by rfl rfl X.out.box.load rfl ?_) | (with_reducible refine wpList_load_by rfl rfl X.out.box.base rfl ?_) | (go_at_call 13; (with_reducible refine (CA.out _ X.out.below).mono ?_); rintro r wb ⟨rfl, kk⟩; have X := Lib.hid (X.out.next kk); clear kk) | (with_reducible refine wpList_store_by rfl rfl (ent_new _ _) rfl rfl ?_) | fail)
      have Y := Lib.hid (EBox.new wb f)
      have X := Lib.hid (X.out.next (below1 wb (enO f)))
      generalize wb.heap.size = y at *
      generalize wb.alloc (enO f) = w5 at *
      try simp only [put_none]

      have HML := Lib.hid (show (M.take d ++ [e]).length = d + 1 from by simp; omega)
      have HO0 := HO
      go_upto_region 6 with (first | (with_reducible refine wpList_load_wanted rfl rfl Y.out.term rfl ?_) | (with_reducible refine wpList_load_wanted rfl rfl X.out.e.term rfl ?_) | fail)
      refine drK (fun w => LBox w W.heap.size ⟨base, bt, s, .slice q M.length c⟩ ∧ EBox w (W.heap.size + 1) e) 11 fun w3 hzz => ?_
      have X := Lib.hid (X.out.next hzz)
      clear hzz Y
      have hS := And.intro X.out.box X.out.e
      refine tkK 0 hS ?_
      refine tlK 1 hS (fun w hw => hw.1.list) ?_
      refine tlK 2 hS (fun w hw => hw.1.load) ?_
      refine tkK 3 hS ?_
      refine tkK 4 hS ?_
      refine tlK 7 hS (fun w hw => hw.2.load) ?_
      refine twoK 5 8 (opCall 5 (true_calls2 (CU.out _ X.out.below)) fun v wu hr => ?_) (opVal 8 (exec_be _ rfl rfl) ?_)
      · obtain ⟨rfl, kk⟩ := hr
        have X := Lib.hid (X.out.next kk)
        clear kk
        have hS := And.intro X.out.box X.out.e
        refine ⟨fun _ => hS, ?_⟩
        refine tkK 6 hS ?_ (hy := .inl ⟨by kernel_rfl, fun w _ => exec_shi rfl (slice_hi .i64 hdk hcap w) rfl rfl⟩)
        have HG := Lib.hid (heap_alloc_new wu (.cells (enC e) 36))
        have X6 := Lib.hid (X.out.next (below1 wu (.cells (enC e) 36)))
        refine oneK 8 (opVal 8 (exec_be _ rfl rfl) ⟨fun _ => And.intro X6.out.box X6.out.e, ?_⟩)
        have X := X6
        clear X6
        have HO := Lib.hid (owns_below HO.out X.out.below)
        have HBB := Lib.hid (Nat.le_trans hB X.out.below.size)
        generalize wu.heap.size = g at *
        generalize wu.alloc (.cells (enC e) 36) = w6 at *
        obtain ⟨q2, c2, w7, hrun, ho2, ht⟩ := app_ent (owns_take HO.out hdk) HG.out HBB.out (by omega)
        have HEB := Lib.hid (show ∀ g, (Value.slice q d c).ownBlock = some g → g < W.heap.size ∧ B ≤ g from fun g hg => by
          have h := HO0.out
          have e1 : (Value.slice q d c).ownBlock = (Value.slice q M.length c).ownBlock := by cases q <;> rfl
          rw [e1] at hg
          exact ⟨(owns_lt h hg).2, (owns_lt h hg).1⟩)
        have HKB := Lib.hid (show ∀ b, W.heap.size ≤ b → b < w6.heap.size → w7.heap[b]? = w6.heap[b]? from fun b hb hb2 => ht.block b hb2 fun hx => by have := (HEB.out b hx.symm).1; omega)
        have HBX := Lib.hid (show LBox w7 W.heap.size ⟨base, bt, s, .slice q M.length c⟩ from (HKB.out _ (Nat.le_refl _) X.out.box.lt).trans X.out.box)
        have HRX := Lib.hid (show LBox w7 (W.heap.size + 1 + 1) zeroLg from (HKB.out _ (by omega) X.out.res.lt).trans X.out.res)
        have HEX := Lib.hid (show EBox w7 (W.heap.size + 1) e from (HKB.out _ (by omega) X.out.e.lt).trans X.out.e)
        refine oneK 9 (opVal 9 (exec_app (v := .slice q d c) (u := .slice (some ⟨g, 0, none⟩) 1 1) rfl hrun rfl rfl) ⟨fun _ => And.intro HBX.out HEX.out, ?_⟩)
        have hS := And.intro HBX.out HEX.out
        have HT7 := Lib.hid (show Touch W w7 (fun x => some x = (Value.slice q M.length c).ownBlock) from (touch_of_below X.out.below _).trans (ht.mono fun x _ hx => by rw [show (Value.slice q d c).ownBlock = (Value.slice q M.length c).ownBlock from by cases q <;> rfl] at hx; exact hx))
        have HO2 := Lib.hid ho2
        clear hrun ho2 ht
        refine tkK 10 hS ?_
        refine hsK (HBX.out.putList _ _ _) fun wy hw => ?_
        subst hw
        refine doneK ?_ (by kernel_rfl) _
        have HB8 := Lib.hid (HBX.out.mine ⟨base, bt, s, .slice q2 (d + 1) c2⟩)
        have HR8 := Lib.hid (HRX.out.over (g := W.heap.size) (by omega) (lgC ⟨base, bt, s, .slice q2 (d + 1) c2⟩))
        have HO8 := Lib.hid (owns_same HO2.out (w' := w7.setRow W.heap.size (lgC ⟨base, bt, s, .slice q2 (d + 1) c2⟩)) fun x hx => setRow_other _ _ _ _ (fun e => own_not HO2.out HBX.out (by rw [hx, e])))
        have HT8 := Lib.hid (HT7.out.setRow (g := W.heap.size) (.inr (Nat.le_refl _)) (lgC ⟨base, bt, s, .slice q2 (d + 1) c2⟩))
        generalize w7.setRow W.heap.size (lgC ⟨base, bt, s, .slice q2 (d + 1) c2⟩) = w8 at *
        have HF := Lib.hid (HR8.out.full ⟨base, bt, s, .slice q2 (d + 1) c2⟩ ⟨_, _, _, rfl⟩)
        have HRes := Lib.hid (HR8.out.mine ⟨base, bt, s, .slice q2 (d + 1) c2⟩)
        have HT9 := Lib.hid (HT8.out.setRow (g := W.heap.size + 1 + 1) (.inr (by omega)) (lgC ⟨base, bt, s, .slice q2 (d + 1) c2⟩))
        have HO9 := Lib.hid (owns_same HO8.out (w' := w8.setRow (W.heap.size + 1 + 1) (lgC ⟨base, bt, s, .slice q2 (d + 1) c2⟩)) fun x hx => setRow_other _ _ _ _ (fun e => own_not HO8.out HR8.out (by rw [hx, e])))
        go_wp2_with (first | (with_reducible refine wpList_load_by rfl rfl HB8.out.load rfl ?_) | (with_reducible refine wpList_store_by rfl rfl HF.out rfl rfl ?_) | fail)
        exact bodyPost_ret (v := lgV ⟨base, bt, s, .slice q2 (d + 1) c2⟩) (results_lg1 Try.results45 _ _ (W.heap.size + 1 + 1) _ rfl HRes.out) rfl ⟨q2, c2, by rw [HML.out], by rw [HML.out]; exact HO9.out, HT9.out⟩
      · have HG := Lib.hid (heap_alloc_new w3 (.cells (enC e) 36))
        have X := Lib.hid (X.out.next (below1 w3 (.cells (enC e) 36)))
        refine ⟨fun _ => And.intro X.out.box X.out.e, ?_⟩
        generalize w3.heap.size = g at *
        generalize w3.alloc (.cells (enC e) 36) = w5 at *
        refine oneK 5 (opCall 5 (true_calls2 (CU.out _ X.out.below)) fun v w6 hr => ?_)
        obtain ⟨rfl, kk⟩ := hr
        have HG := Lib.hid ((kk.block g (Array.getElem?_eq_some_iff.1 HG.out).1).trans HG.out)
        have X := Lib.hid (X.out.next kk)
        clear kk
        have hS := And.intro X.out.box X.out.e
        refine ⟨fun _ => hS, ?_⟩
        have HO := Lib.hid (owns_below HO.out X.out.below)
        have HBB := Lib.hid (Nat.le_trans hB X.out.below.size)
        refine tkK 6 hS ?_ (hy := .inl ⟨by kernel_rfl, fun w _ => exec_shi rfl (slice_hi .i64 hdk hcap w) rfl rfl⟩)
        obtain ⟨q2, c2, w7, hrun, ho2, ht⟩ := app_ent (owns_take HO.out hdk) HG.out HBB.out (by omega)
        have HEB := Lib.hid (show ∀ g, (Value.slice q d c).ownBlock = some g → g < W.heap.size ∧ B ≤ g from fun g hg => by
          have h := HO0.out
          have e1 : (Value.slice q d c).ownBlock = (Value.slice q M.length c).ownBlock := by cases q <;> rfl
          rw [e1] at hg
          exact ⟨(owns_lt h hg).2, (owns_lt h hg).1⟩)
        have HKB := Lib.hid (show ∀ b, W.heap.size ≤ b → b < w6.heap.size → w7.heap[b]? = w6.heap[b]? from fun b hb hb2 => ht.block b hb2 fun hx => by have := (HEB.out b hx.symm).1; omega)
        have HBX := Lib.hid (show LBox w7 W.heap.size ⟨base, bt, s, .slice q M.length c⟩ from (HKB.out _ (Nat.le_refl _) X.out.box.lt).trans X.out.box)
        have HRX := Lib.hid (show LBox w7 (W.heap.size + 1 + 1) zeroLg from (HKB.out _ (by omega) X.out.res.lt).trans X.out.res)
        have HEX := Lib.hid (show EBox w7 (W.heap.size + 1) e from (HKB.out _ (by omega) X.out.e.lt).trans X.out.e)
        refine oneK 9 (opVal 9 (exec_app (v := .slice q d c) (u := .slice (some ⟨g, 0, none⟩) 1 1) rfl hrun rfl rfl) ⟨fun _ => And.intro HBX.out HEX.out, ?_⟩)
        have hS := And.intro HBX.out HEX.out
        have HT7 := Lib.hid (show Touch W w7 (fun x => some x = (Value.slice q M.length c).ownBlock) from (touch_of_below X.out.below _).trans (ht.mono fun x _ hx => by rw [show (Value.slice q d c).ownBlock = (Value.slice q M.length c).ownBlock from by cases q <;> rfl] at hx; exact hx))
        have HO2 := Lib.hid ho2
        clear hrun ho2 ht
        refine tkK 10 hS ?_
        refine hsK (HBX.out.putList _ _ _) fun wy hw => ?_
        subst hw
        refine doneK ?_ (by kernel_rfl) _
        have HB8 := Lib.hid (HBX.out.mine ⟨base, bt, s, .slice q2 (d + 1) c2⟩)
        have HR8 := Lib.hid (HRX.out.over (g := W.heap.size) (by omega) (lgC ⟨base, bt, s, .slice q2 (d + 1) c2⟩))
        have HO8 := Lib.hid (owns_same HO2.out (w' := w7.setRow W.heap.size (lgC ⟨base, bt, s, .slice q2 (d + 1) c2⟩)) fun x hx => setRow_other _ _ _ _ (fun e => own_not HO2.out HBX.out (by rw [hx, e])))
        have HT8 := Lib.hid (HT7.out.setRow (g := W.heap.size) (.inr (Nat.le_refl _)) (lgC ⟨base, bt, s, .slice q2 (d + 1) c2⟩))
        generalize w7.setRow W.heap.size (lgC ⟨base, bt, s, .slice q2 (d + 1) c2⟩) = w8 at *
        have HF := Lib.hid (HR8.out.full ⟨base, bt, s, .slice q2 (d + 1) c2⟩ ⟨_, _, _, rfl⟩)
        have HRes := Lib.hid (HR8.out.mine ⟨base, bt, s, .slice q2 (d + 1) c2⟩)
        have HT9 := Lib.hid (HT8.out.setRow (g := W.heap.size + 1 + 1) (.inr (by omega)) (lgC ⟨base, bt, s, .slice q2 (d + 1) c2⟩))
        have HO9 := Lib.hid (owns_same HO8.out (w' := w8.setRow (W.heap.size + 1 + 1) (lgC ⟨base, bt, s, .slice q2 (d + 1) c2⟩)) fun x hx => setRow_other _ _ _ _ (fun e => own_not HO8.out HR8.out (by rw [hx, e])))
        go_wp2_with (first | (with_reducible refine wpList_load_by rfl rfl HB8.out.load rfl ?_) | (with_reducible refine wpList_store_by rfl rfl HF.out rfl rfl ?_) | fail)
        exact bodyPost_ret (v := lgV ⟨base, bt, s, .slice q2 (d + 1) c2⟩) (results_lg1 Try.results45 _ _ (W.heap.size + 1 + 1) _ rfl HRes.out) rfl ⟨q2, c2, by rw [HML.out], by rw [HML.out]; exact HO9.out, HT9.out⟩
end Go.Proofs.Ythlghmechldegaa
