/- New of the program; awake. Check of both sides. -/
import Derived.Test.YtgflnfmnjlmenaaYDAA
import Derived.Test.YtgflnfmnjlmenaaYRW
namespace Go.Proofs.Ytgflnfmnjlmenaa
open Go.RowKit Go.Deep Go.Joins
set_option maxRecDepth 100000
set_option maxHeartbeats 1000000 in
theorem new_ram (n : Int) (s : ByteArray) (w : World) (h : ¬ (1 ≤ n ∧ n ≤ 256)) :
    Calls Try.prog 34 #[.int .i64 n, .string s] w fun e w' => e = .returned (.tuple #[.agg #[.slice none 0 0, .slice none 0 0, .int .u64 0], .int .i64 50]) ∧ Below w.heap.size w w' := by
  by_cases h1 : n < 1
  · go_enter Try.func34, Try.ntmps34
    go_wp2
    exact bodyPost_ret (v := .tuple #[.agg #[.slice none 0 0, .slice none 0 0, .int .u64 0], .int .i64 50]) (by simp [results, Try.results34, go_sem]) rfl ⟨rfl, below1 w _⟩
  · have h2 : 256 < n := by omega
    clear h
    go_enter Try.func34, Try.ntmps34
    go_wp2
    exact bodyPost_ret (v := .tuple #[.agg #[.slice none 0 0, .slice none 0 0, .int .u64 0], .int .i64 50]) (by simp [results, Try.results34, go_sem]) rfl ⟨rfl, below1 w _⟩
set_option maxHeartbeats 1000000 in
theorem new_long (n : Int) (s : ByteArray) (w : World) (h1 : 1 ≤ n) (h2 : n ≤ 256) (h : n * 256 < s.size) :
    Calls Try.prog 34 #[.int .i64 n, .string s] w fun e w' => e = .returned (.tuple #[.agg #[.slice none 0 0, .slice none 0 0, .int .u64 0], .int .i64 2]) ∧ Below w.heap.size w w' := by
  go_enter Try.func34, Try.ntmps34
  go_wp2
  exact bodyPost_ret (v := .tuple #[.agg #[.slice none 0 0, .slice none 0 0, .int .u64 0], .int .i64 2]) (by simp [results, Try.results34, go_sem]) rfl ⟨rfl, below1 w _⟩
set_option maxHeartbeats 2000000 in
theorem new_any (n : Nat) (s : ByteArray) (w : World) (h1 : 1 ≤ n) (h2 : n ≤ 256) (hs : s.size ≤ n * 256) :
    Calls Try.prog 34 #[.int .i64 n, .string s] w (NewMem w (spl (List.replicate (n * 256) 0) 0 s) (List.replicate n 0) 0 0) := by
  have hmd := make_d (n * 256) (by omega)
  have hmm := make_m n (by omega)
  rw [show ((n * 256 : Nat) : Int) = (n : Int) * 256 by simp] at hmd
  have hwr : IntKind.i64.wrap ((n : Int) * 256) = (n : Int) * 256 := IntWalk.i64_in _ (by omega)
  go_enter Try.func34, Try.ntmps34
  go_upto_region 5 with fail
  go_cut [6] (fun s6 wx => Made w (n * 256) n 0 s6 wx)
  case first =>
    go_region
    all_goals (go_wp2_with fail; go_meet)
    all_goals
      have hsz : (w.alloc (Obj.cells #[Value.slice none 0 0, Value.slice none 0 0, Value.int IntKind.u64 0] 39)).heap.size = w.heap.size + 1 := World.size_alloc _ _
      have hx1 : n * 256 ≤ maxLen := by unfold maxLen; omega
      have hx2 : n ≤ maxLen := by unfold maxLen; omega
      have hbl : ∀ o1 o2 o3, Below (w.heap.size + 1) (w.alloc (.cells #[.slice none 0 0, .slice none 0 0, .int .u64 0] 39)) ((((w.alloc (.cells #[.slice none 0 0, .slice none 0 0, .int .u64 0] 39)).alloc o1).alloc o2).alloc o3).drew := fun o1 o2 o3 =>
        ((((Below.refl _ _).alloc (by simp) _).alloc (by simp) _).alloc (by simp) _).drew
      first | exact made_mk (new3 hsz).1 (new3 hsz).2.1 (new3 hsz).2.2 (by omega) (by omega) (by omega) hx1 hx2 (hbl _ _ _) | exact made_mk (new3 hsz).1 (new3 hsz).2.2 (new3 hsz).2.1 (by omega) (by omega) (by omega) hx1 hx2 (hbl _ _ _) | exact made_mk (new3 hsz).2.1 (new3 hsz).1 (new3 hsz).2.2 (by omega) (by omega) (by omega) hx1 hx2 (hbl _ _ _) | exact made_mk (new3 hsz).2.1 (new3 hsz).2.2 (new3 hsz).1 (by omega) (by omega) (by omega) hx1 hx2 (hbl _ _ _) | exact made_mk (new3 hsz).2.2 (new3 hsz).1 (new3 hsz).2.1 (by omega) (by omega) (by omega) hx1 hx2 (hbl _ _ _) | exact made_mk (new3 hsz).2.2 (new3 hsz).2.1 (new3 hsz).1 (by omega) (by omega) (by omega) hx1 hx2 (hbl _ _ _) | fail
  case rest =>
    clear hmd hmm hwr
    obtain ⟨z, g, h, rfl, hv, hd, hm, hz, hg, hh, hb⟩ := hcut
    have hr : RamVar wc w.heap.size (.slice none 0 0) (.slice none 0 0) 0 := (hb.block _ (Nat.lt_succ_self _)).trans (heap_alloc_new _ _)
    obtain ⟨c0, c1, c2⟩ := hv.cells
    have hl : (List.replicate (n * 256) (0 : UInt8)).length = n * 256 := List.length_replicate ..
    generalize List.replicate (n * 256) (0 : UInt8) = Z at *
    generalize List.replicate n (0 : Int) = Y at *
    have hzg : z ≠ g := fun e => not_at hd hv (by decide) (by rw [e]; rfl)
    have hrg : w.heap.size ≠ g := fun e => not_at hd hr (by decide) (by rw [← e]; rfl)
    have hhg : h ≠ g := fun e => rows_apart hm hd (by decide) rfl (by rw [e]; rfl)
    have HV := Lib.hid hv
    have HR := Lib.hid hr
    have HM := Lib.hid hm
    have HB := Lib.hid hb
    have HD := Lib.hid hd
    have HL := Lib.hid hl
    clear hv hr hm hb hd hl
    go_wp2_with (with_reducible refine wpList_copy_str rfl (.tmp 27) (.tmp 28) 36 9 rfl 5 Try.underlying36 (by kernel_rfl) _ _ g 0 rfl s rfl w.heap.size _ _ Z HD.out (by omega) (by rw [HL.out]; omega) ?_; intro w2 hd2 ht2; obtain ⟨e0, e1, e2⟩ := (HV.out.touch ht2.out hzg).cells; have hr2 := Lib.hid (HR.out.touch ht2.out hrg); obtain ⟨r0, r1, r2⟩ := hr2.out.cells; have r3 := hr2.out.free 0; have r4 := hr2.out.free 1; have r5 := hr2.out.free 2)
    have hfin := hr2.out.store (.slice (some ⟨g, 0, none⟩) (n * 256) (n * 256)) (.slice (some ⟨h, 0, none⟩) n n) 0
    obtain ⟨f0, f1, f2⟩ := hfin.cells
    clear e0 e1 e2 r0 r1 r2 r3 r4 r5 c0 c1 c2
    refine bodyPost_ret (v := .tuple #[.agg #[.slice (some ⟨g, 0, none⟩) (n * 256) (n * 256), .slice (some ⟨h, 0, none⟩) n n, .int .u64 0], .int .i64 0]) (by simp [results, Try.results34, go_sem, f0, f1, f2]) rfl ?_
    refine ⟨_, _, rfl, ?_, ?_, ?_⟩
    · exact owns_touch hd2.out ((((Touch.refl w2 (fun k => k = w.heap.size)).setCell (.inl rfl) _).setCell (.inl rfl) _).setCell (.inl rfl) _) (fun g' e e2 => hrg (by cases e; exact e2.symm))
    · exact owns_touch (owns_touch HM.out ht2.out (fun g' e e2 => hhg (by cases e; exact e2))) ((((Touch.refl w2 (fun k => k = w.heap.size)).setCell (.inl rfl) _).setCell (.inl rfl) _).setCell (.inl rfl) _) (fun g' e e2 => by cases e; exact absurd e2 (show h ≠ w.heap.size by omega))
    · have hb1 : Below w.heap.size w wc := (below1 w _).trans (HB.out.mono (Nat.le_succ _))
      have hb2 := Touch.below hb1 ht2.out (fun k hk => by omega) hb1.size
      exact ((hb2.setCell (Nat.le_refl _) _).setCell (Nat.le_refl _) _).setCell (Nat.le_refl _) _
end Go.Proofs.Ytgflnfmnjlmenaa
namespace Go.Proofs.Ytgflnfmnjlmenaa
open Go.RowKit Go.Deep Go.Joins
set_option maxRecDepth 100000
def chkB (n : Nat) (M : List Int) (E : Int) : Bool := decide (1 ≤ M.length ∧ M.length ≤ 256 ∧ n = M.length * 256) && M.all fun m => decide (m ≤ E)
def chkV (n : Nat) (M : List Int) (E : Int) : Int := if chkB n M E then 0 else 50
theorem chk_no1 {n : Nat} {M : List Int} {E : Int} (h : ¬ (1 ≤ M.length ∧ M.length ≤ 256 ∧ n = M.length * 256)) : chkV n M E = 50 := by
  unfold chkV chkB; simp only [h, decide_false, Bool.false_and, Bool.false_eq_true, if_false]
theorem chk_no2 {n : Nat} {M : List Int} {E : Int} (j : Nat) (hj : j < M.length) (h : E < M[j]) : chkV n M E = 50 := by
  have : (M.all fun m => decide (m ≤ E)) = false := by
    rw [List.all_eq_false]
    exact ⟨M[j], List.getElem_mem _, by simp; omega⟩
  unfold chkV chkB; rw [this]; simp
theorem chk_yes {n : Nat} {M : List Int} {E : Int} (h : 1 ≤ M.length ∧ M.length ≤ 256 ∧ n = M.length * 256) (h2 : ∀ j (hj : j < M.length), M[j] ≤ E) : chkV n M E = 0 := by
  have : (M.all fun m => decide (m ≤ E)) = true := by
    rw [List.all_eq_true]
    intro m hm
    obtain ⟨j, hj, rfl⟩ := List.getElem_of_mem hm
    exact decide_eq_true (h2 j hj)
  unfold chkV chkB; rw [this]; simp [h]
set_option maxHeartbeats 2000000 in
theorem check_no (p : Option Addr) (n cap : Nat) (q : Option Addr) (cap2 : Nat) (E : Int) (M : List Int) (w : World) (hM : M.length ≤ 9223372036854775807) (h : ¬ (1 ≤ M.length ∧ M.length ≤ 256 ∧ n = M.length * 256)) :
    Calls Try.prog 28 #[.agg #[.slice p n cap, .slice q M.length cap2, .int .u64 E]] w fun e w' => e = .returned (.int .i64 50) ∧ Below w.heap.size w w' := by
  by_cases h1 : M.length < 1
  · go_enter Try.func28, Try.ntmps28
    go_wp2
    go_ret
    exact ⟨rfl, below1 w _⟩
  by_cases h2 : 256 < M.length
  · go_enter Try.func28, Try.ntmps28
    go_wp2
    go_ret
    exact ⟨rfl, below1 w _⟩
  · have h3 : ((n : Int) != (M.length : Int) * 256) = true := by rw [bne_iff_ne]; omega
    clear h
    go_enter Try.func28, Try.ntmps28
    go_wp2
    go_ret
    exact ⟨rfl, below1 w _⟩
set_option maxHeartbeats 2000000 in
theorem check_in (p : Option Addr) (n cap : Nat) (mv : Value) (E : Int) (M : List Int) (w : World) (hm : MAt w mv M) (h : 1 ≤ M.length ∧ M.length ≤ 256 ∧ n = M.length * 256) :
    Calls Try.prog 28 #[.agg #[.slice p n cap, mv, .int .u64 E]] w fun e w' => e = .returned (.int .i64 (chkV n M E)) ∧ Below w.heap.size w w' := by
  obtain ⟨b, off, cap2, rfl, _, _, hb, hc⟩ := hm.cell (by omega)
  have hc1 := hc
  have h1 : ¬ (M.length < 1) := by omega
  have h2 : ¬ (256 < M.length) := by omega
  have h3 : ((n : Int) != (M.length : Int) * 256) = false := by rw [bne_eq_false_iff_eq]; omega
  have HH := Lib.hid h
  have HC := Lib.hid hc
  clear h hc hc1 hm
  go_enter Try.func28, Try.ntmps28
  go_wp2_with fail
  go_loop [26] (fun i => ∃ j : Nat, j ≤ M.length ∧ i = .int .i64 j ∧ Hid (∀ k (hk : k < M.length), k < j → M[k] ≤ E)) (fun i => M.length - (intOf i).toNat)
  case atStart => exact ⟨0, Nat.zero_le _, rfl, Lib.hid (fun k _ hk => absurd hk (Nat.not_lt_zero _))⟩
  case round =>
    obtain ⟨j, hj, rfl, hall⟩ := hrel
    by_cases hlt : j < M.length
    · have hc1 := (below1 w (.cells #[.slice p n cap, .slice (some ⟨b, off, none⟩) M.length cap2, .int .u64 E] 39)).cell (p := ⟨b, off + j, none⟩) hb
      rw [HC.out j hlt] at hc1
      have c1 := hc1
      clear hc1
      have HN := Lib.hid (fun h => chk_no2 (n := n) (M := M) (E := E) j hlt h)
      have HS := Lib.hid (show M[j] ≤ E → ∀ k (hk : k < M.length), k < j + 1 → M[k] ≤ E from fun h k hk hkj => by
        by_cases e : k < j
        · exact hall.out k hk e
        · obtain rfl : k = j := by omega
          exact h)
      generalize M[j] = X at *
      by_cases hx : E < X
      · go_wp2_with fail
        go_ret
        exact ⟨ret_int (HN.out hx).symm, below1 w _⟩
      · go_wp2_with fail
        go_round
        case rel => exact ⟨j + 1, by omega, by go_num, Lib.hid (HS.out (by omega))⟩
        case measure => simp [intOf]; omega
    · go_wp2_with fail
      go_ret
      exact ⟨ret_int (chk_yes HH.out (fun k hk => hall.out k hk (by omega))).symm, below1 w _⟩
theorem check_any (p : Option Addr) (n cap : Nat) (mv : Value) (E : Int) (M : List Int) (w : World) (hm : MAt w mv M) :
    Calls Try.prog 28 #[.agg #[.slice p n cap, mv, .int .u64 E]] w fun e w' => e = .returned (.int .i64 (chkV n M E)) ∧ Below w.heap.size w w' := by
  by_cases h : 1 ≤ M.length ∧ M.length ≤ 256 ∧ n = M.length * 256
  · exact check_in p n cap mv E M w hm h
  · obtain ⟨q, cap2, rfl⟩ := hm.is
    rw [chk_no1 h]
    exact check_no p n cap q cap2 E M w hm.le h
end Go.Proofs.Ytgflnfmnjlmenaa
