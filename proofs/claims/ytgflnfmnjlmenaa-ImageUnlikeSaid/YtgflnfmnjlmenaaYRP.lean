/- Copy of the program. Copy of the reference. -/
import Derived.Test.YtgflnfmnjlmenaaYRD
namespace Go
open Go.RowKit
/-- copy OF A WHOLE SLICE INTO A ROW OF THE SAME LENGTH. -/
theorem run_copy_all {P : Program} {w : World} (dT sT ty elem : TypeId) (hu : P.underlying dT = some (.slice elem)) (hsz : (P.info? elem).map (·.size) = some 1)
    (B n cap g : Nat) (xs : List Value) (hown : w.ownsRow B elem 1 (.slice (some ⟨g, 0, none⟩) n cap) n xs)
    (q : Option Addr) (c : Nat) (cells : List Value) (hr : Proofs.Ytgflnfmnjlmenaa.Reads w (.slice q n c) 1 n cells) (h1 : ∀ v ∈ cells, v.oneCell' = true) :
    ∃ w', (Builtin.copy_ #[dT, sT] ty #[.slice (some ⟨g, 0, none⟩) n cap, .slice q n c]).run P w = .ok (goInt n) w' ∧ w'.ownsRow B elem 1 (.slice (some ⟨g, 0, none⟩) n cap) n cells ∧
      Proofs.Ytgflnfmnjlmenaa.Touch w w' (fun k => k = g) := by
  obtain ⟨hl, hr⟩ := hr
  rw [Nat.mul_one] at hl
  by_cases h0 : n = 0
  · subst h0
    obtain rfl : cells = [] := List.eq_nil_of_length_eq_zero hl
    obtain rfl : xs = [] := List.eq_nil_of_length_eq_zero (by have := hown.1; omega)
    exact ⟨w, run_copy_none (P := P) w dT sT ty elem _ q _ cap 0 c hu hsz rfl, hown, Proofs.Ytgflnfmnjlmenaa.Touch.refl _ _⟩
  · rcases hr with ⟨_, e⟩ | ⟨ad, c2, e, _, _, hc⟩
    · exact absurd e h0
    · simp only [Value.slice.injEq, true_and] at e
      obtain ⟨rfl, rfl⟩ := e
      rcases hown.2 with ⟨e, _⟩ | ⟨g', cap', cur, e, k2, k3, k4, k5, k6, k7⟩
      · cases e
      · simp only [Value.slice.injEq, Option.some.injEq, Addr.mk.injEq, and_true, true_and] at e
        obtain ⟨rfl, rfl⟩ := e
        have hcl : cur.toList.length = cap := by rw [Array.length_toList, k6, Nat.mul_one]
        have hrun := run_copy_row (P := P) w dT sT ty elem g 0 n cap ad n c cur elem cells hu hsz k3 (by rw [hl]; exact (Nat.min_self n).symm) hc (by rw [hl, k6]; omega) h1
        rw [hl] at hrun
        refine ⟨_, hrun, ⟨by rw [hl, Nat.mul_one], .inr ⟨g, cap, _, rfl, k2, setRow_heap w g _ _ elem _ k3, k4, k5, ?_, ?_⟩⟩, ?_⟩
        · simp only [List.take_zero, List.nil_append, Nat.zero_add, List.size_toArray, List.length_append, List.length_drop, hl, hcl]
          omega
        · simp only [List.take_zero, List.nil_append, Nat.zero_add, Nat.mul_one]
          rw [List.take_append, hl, Nat.sub_self, List.take_zero, List.append_nil, List.take_of_length_le (by omega)]
        · exact (Proofs.Ytgflnfmnjlmenaa.Touch.refl w (fun k => k = g)).setRow (.inl rfl) _
end Go
namespace Go.Proofs.Ytgflnfmnjlmenaa
open Go.RowKit Go.Deep Go.Joins
def box0 (a b : Value) (E : Int) : Obj := .cells #[a, b, .int .u64 E] 39
/-- Two rows of noughts and the variable that holds them, behind the box of the argument and that of the result. -/
def CMade (w w0 : World) (n m : Nat) (E : Int) (s : Value) (wx : World) : Prop :=
  ∃ z g h, s = .pointer (some ⟨z, 0, none⟩) ∧ RamVar wx z (.slice (some ⟨g, 0, none⟩) n n) (.slice (some ⟨h, 0, none⟩) m m) E ∧ OwnD wx w.heap.size (.slice (some ⟨g, 0, none⟩) n n) (List.replicate n 0) ∧
    OwnM wx w.heap.size (.slice (some ⟨h, 0, none⟩) m m) (List.replicate m 0) ∧ w.heap.size + 1 < z ∧ w.heap.size + 1 < g ∧ w.heap.size + 1 < h ∧ Below (w.heap.size + 2) w0 wx
theorem cmade_mk {w w0 wx : World} {n m z g h : Nat} {E : Int} (h1 : wx.heap[z]? = some (.cells #[.slice (some ⟨g, 0, none⟩) n n, .slice (some ⟨h, 0, none⟩) m m, .int .u64 E] 39 (0, 0))) (h2 : wx.heap[g]? = some (.cells (dC (List.replicate n 0)).toArray 5 (0, 0)))
    (h3 : wx.heap[h]? = some (.cells (mC (List.replicate m 0)).toArray 22 (0, 0))) (hz : w.heap.size + 1 < z) (hg : w.heap.size + 1 < g) (hh : w.heap.size + 1 < h) (hn : n ≤ maxLen) (hm : m ≤ maxLen)
    (hb : Below (w.heap.size + 2) w0 wx) : CMade w w0 n m E (.pointer (some ⟨z, 0, none⟩)) wx := by
  refine ⟨z, g, h, rfl, h1, ?_, ?_, hz, hg, hh, hb⟩
  · have e := owns_whole (n := n) (Nat.le_of_lt (Nat.lt_of_succ_lt hg)) h2 (by simp [dC]) hn
    show wx.ownsRow _ _ _ _ _ _
    rw [List.length_replicate]; exact e
  · have e := owns_whole (n := m) (Nat.le_of_lt (Nat.lt_of_succ_lt hh)) h3 (by simp [mC]) hm
    show wx.ownsRow _ _ _ _ _ _
    rw [List.length_replicate]; exact e
/-- A copy, the call's own. -/
def CopyMem (w : World) (D : List UInt8) (M : List Int) (E : Int) (e : Ending) (w' : World) : Prop :=
  ∃ dv mv, e = .returned (.agg #[dv, mv, .int .u64 E]) ∧ OwnD w' w.heap.size dv D ∧ OwnM w' w.heap.size mv M ∧ Below w.heap.size w w'
end Go.Proofs.Ytgflnfmnjlmenaa
namespace Go
theorem wpList_append_run {P : Program} {w : World} {ops : Array Oper} {rest : List Oper} {o : Oper} {a : Act} {Q : Exit → Act → World → Prop} (hgd : o.guard = none) (s x : Operand) (t : TypeId)
    (ho : o.op = .call { callee := .builtin .append, args := #[s, x], argTypes := #[t, t] }) (v u r : Value) (hs : a.eval s = v) (hx : a.eval x = u) (w' : World)
    (hrun : (Builtin.append_ #[t, t] o.type #[v, u]).run P w = .ok r w') (h : wpList P ops Q rest (a.put o.dst r) w') : wpList P ops Q (o :: rest) a w := by
  refine wpList_plain hgd fun K hK => ?_
  unfold Oper.wp
  simp [execOp, ho, resolve, invoke, builtin, hs, hx, hrun, Result.andThen]
  exact hK _ _ h
end Go
namespace Go.Proofs.Ytgflnfmnjlmenaa
open Go.RowKit Go.Deep Go.Joins
theorem owns_empty {w : World} {B g : Nat} {e : TypeId} {size : Nat} (hg : w.heap[g]? = some (.cells #[] e (0, 0))) (hB : B ≤ g) : w.ownsRow B e size (.slice (some ⟨g, 0, none⟩) 0 0) 0 [] :=
  ⟨by simp, .inr ⟨g, 0, #[], rfl, hB, hg, Nat.le_refl _, Nat.zero_le _, by simp, by simp⟩⟩
theorem touch_of_grown {w w' : World} {row : Option Nat} (h : w.grownBy w' row) : Touch w w' (fun k => some k = row) := ⟨h.os, h.tape, h.output, h.size, fun k hk hne => h.block k hk hne⟩
/-- append OF A WHOLE SLICE TO AN EMPTY ROW. -/
theorem run_append_first (w : World) (t ty e : TypeId) (i : TypeInfo) (z : Value) (bytes : Nat) (ht : Try.prog.underlying t = some (.slice e)) (hi : Try.prog.info? e = some i) (hz : i.zero = some z) (hsize : i.size = 1) (hby : i.bytes = bytes) (hzs : z.cells.size = 1)
    (B g : Nat) (hg : w.heap[g]? = some (.cells #[] e (0, 0))) (hB : B ≤ g) (q : Option Addr) (n c : Nat) (cells : List Value) (hr : Reads w (.slice q n c) 1 n cells) (h1 : ∀ u ∈ cells, u.oneCell' = true) (h63 : n ≤ maxLen) (hbytes : n * bytes ≤ 140737488355328) (hbase : B ≤ w.heap.size) :
    ∃ p cap w', (Builtin.append_ #[t, t] ty #[.slice (some ⟨g, 0, none⟩) 0 0, .slice q n c]).run Try.prog w = .ok (.slice p n cap) w' ∧ w'.ownsRow B e 1 (.slice p n cap) n cells ∧ Touch w w' (fun k => k = g) := by
  have hown := owns_empty (w := w) (B := B) (size := 1) hg hB
  have hl := hr.1
  rcases hr.2 with ⟨e1, rfl⟩ | ⟨a, c2, e1, _, _, hc⟩
  · simp only [Value.slice.injEq] at e1
    obtain ⟨rfl, _, rfl⟩ := e1
    obtain rfl : cells = [] := List.eq_nil_of_length_eq_zero (by omega)
    refine ⟨_, _, w, run_append_owned_none (P := Try.prog) w B t ty e i 1 ht hi _ 0 [] hown, hown, Touch.refl _ _⟩
  · simp only [Value.slice.injEq, true_and] at e1
    obtain ⟨rfl, rfl⟩ := e1
    obtain ⟨v', w', hrun, ho, hgr, _⟩ := run_append_own (P := Try.prog) w B t ty e i z 1 bytes ht hi hz hsize hby hzs (by omega) _ 0 [] hown a n c cells hl hc h1 (by omega) (by rw [Nat.zero_add]; exact hbytes) hbase
    rw [Nat.zero_add, List.nil_append] at ho
    obtain ⟨p, cap, rfl⟩ := owns_shape ho
    exact ⟨p, cap, w', hrun, ho, (touch_of_grown hgr).mono (fun k _ hk => by cases hk; rfl)⟩
theorem two_boxes0 (w : World) (a b : Value) (E : Int) (o : Obj) : RamVar ((w.alloc o).alloc (.cells #[a, b, .int .u64 E] 39)) (w.heap.size + 1) a b E := by
  have h := heap_alloc_new (w.alloc o) (.cells #[a, b, .int .u64 E] 39)
  rwa [World.size_alloc] at h
theorem first_box0 (w : World) (a b : Value) (E : Int) (o : Obj) : RamVar ((w.alloc (.cells #[a, b, .int .u64 E] 39)).alloc o) w.heap.size a b E :=
  (heap_alloc_old _ (by simp)).trans (heap_alloc_new _ _)
set_option maxRecDepth 100000 in
set_option maxHeartbeats 2000000 in
theorem rcopy_any (dv mv : Value) (E : Int) (D : List UInt8) (M : List Int) (w : World) (hd : DAt w dv D) (hm : MAt w mv M) (hD : D.length ≤ 140737488351232) (hM : M.length ≤ 17592186043904) :
    Calls Try.prog 14 #[.agg #[dv, mv, .int .u64 E]] w (CopyMem w D M E) := by
  obtain ⟨p, cap, rfl⟩ := hd.is
  obtain ⟨q, cap2, rfl⟩ := hm.is
  obtain ⟨i5, ki5, kz5, ks5, kb5⟩ := info_parts (show (Try.prog.info? 5).map (fun i => (i.zero, i.size, i.bytes)) = some (some (.int .u8 0), 1, 1) by kernel_rfl)
  obtain ⟨i24, ki24, kz24, ks24, kb24⟩ := info_parts (show (Try.prog.info? 22).map (fun i => (i.zero, i.size, i.bytes)) = some (some (.int .u64 0), 1, 8) by kernel_rfl)
  have h1 : ∀ v ∈ dC D, v.oneCell' = true := fun v hv => by obtain ⟨_, _, rfl⟩ := List.mem_map.1 hv; rfl
  have h2 : ∀ v ∈ mC M, v.oneCell' = true := fun v hv => by obtain ⟨_, _, rfl⟩ := List.mem_map.1 hv; rfl
  -- the world ahead of the first append
  obtain ⟨w1, hw1⟩ : ∃ w1, w1 = ((w.alloc (.cells #[.slice p D.length cap, .slice q M.length cap2, .int .u64 E] 39)).alloc (.cells #[.slice none 0 0, .slice none 0 0, .int .u64 0] 39)).alloc (.cells #[] 5) := ⟨_, rfl⟩
  have hs1 : w1.heap.size = w.heap.size + 3 := by rw [hw1]; simp
  have hb1 : Below w.heap.size w w1 := by rw [hw1]; exact (below2 w _ _).alloc (by simp; omega) _
  have hg1 : w1.heap[w.heap.size + 2]? = some (.cells #[] 5 (0, 0)) := by
    have h := heap_alloc_new ((w.alloc (.cells #[.slice p D.length cap, .slice q M.length cap2, .int .u64 E] 39)).alloc (.cells #[.slice none 0 0, .slice none 0 0, .int .u64 0] 39)) (.cells #[] 5)
    rw [World.size_alloc, World.size_alloc] at h
    rw [hw1]; exact h
  have hx1 : RamVar w1 w.heap.size (.slice p D.length cap) (.slice q M.length cap2) E := by
    rw [hw1]; exact (first_box0 w _ _ _ _).below (below1 _ _)
  have hr1 : RamVar w1 (w.heap.size + 1) (.slice none 0 0) (.slice none 0 0) 0 := by
    rw [hw1]; exact (two_boxes0 w _ _ _ _).below (below1 _ _)
  obtain ⟨p', cap', w2, hrun2, hod2, ht2⟩ := run_append_first w1 36 36 5 i5 (.int .u8 0) 1 Try.underlying36 ki5 kz5 ks5 kb5 rfl (w.heap.size + 2) (w.heap.size + 1 + 1) hg1 (Nat.le_refl _) p D.length cap (dC D) (hd.below hb1) h1 (by unfold maxLen; omega) (by omega) (by omega)
  have hx2 := hx1.touch ht2 (by omega)
  have hr2 := hr1.touch ht2 (by omega)
  have hb2 : Below w.heap.size w w2 := Touch.below hb1 ht2 (fun k hk => by omega) hb1.size
  have hsz2 := ht2.size
  -- behind the first store
  obtain ⟨w3, hw3⟩ : ∃ w3, w3 = w2.setCell ⟨w.heap.size, 0, none⟩ (.slice p' D.length cap') := ⟨_, rfl⟩
  have ht3 : Touch w2 w3 (fun k => k = w.heap.size) := by rw [hw3]; exact (Touch.refl w2 (fun k => k = w.heap.size)).setCell (.inl rfl) _
  have hs3 : w3.heap.size = w2.heap.size := by rw [hw3, World.size_setCell]
  have hx3 : RamVar w3 w.heap.size (.slice p' D.length cap') (.slice q M.length cap2) E := by
    rw [hw3]; exact heap_setCell_same w2 w.heap.size 0 _ 39 _ hx2
  have hb3 : Below w.heap.size w w3 := Touch.below hb2 ht3 (fun k hk => by omega) hb2.size
  have hr3 := hr2.touch ht3 (by omega)
  have hod3 : w3.ownsRow (w.heap.size + 2) 5 1 (.slice p' D.length cap') D.length (dC D) := owns_touch hod2 ht3 (fun g hg e => by have := (owns_lt hod2 hg).1; omega)
  obtain ⟨w4, hw4⟩ : ∃ w4, w4 = w3.alloc (.cells #[] 22) := ⟨_, rfl⟩
  have hbn : Below w3.heap.size w3 w4 := by rw [hw4]; exact below1 _ _
  have hg4 : w4.heap[w2.heap.size]? = some (.cells #[] 22 (0, 0)) := by rw [hw4, ← hs3]; exact heap_alloc_new _ _
  have hs4 : w4.heap.size = w2.heap.size + 1 := by rw [hw4, World.size_alloc, hs3]
  have hb4 := below_then hb3 hbn
  have hx4 := hx3.below hbn
  have hr4 := hr3.below hbn
  have hod4 := owns_below hod3 hbn
  obtain ⟨q', cap2', w5, hrun5, hom5, ht5⟩ := run_append_first w4 37 37 22 i24 (.int .u64 0) 8 Try.underlying37 ki24 kz24 ks24 kb24 rfl w2.heap.size w2.heap.size hg4 (Nat.le_refl _) q M.length cap2 (mC M) (hm.below hb4) h2 (by unfold maxLen; omega) (by omega) (by omega)
  have hx5 := hx4.touch ht5 (by omega)
  have hr5 := hr4.touch ht5 (by omega)
  have hb5 : Below w.heap.size w w5 := Touch.below hb4 ht5 (fun k hk => by omega) hb4.size
  have hod5 : w5.ownsRow (w.heap.size + 2) 5 1 (.slice p' D.length cap') D.length (dC D) := owns_touch hod4 ht5 (fun g hg e => by have := (owns_lt hod2 hg).2; omega)
  obtain ⟨w6, hw6⟩ : ∃ w6, w6 = w5.setCell ⟨w.heap.size, 1, none⟩ (.slice q' M.length cap2') := ⟨_, rfl⟩
  have ht6 : Touch w5 w6 (fun k => k = w.heap.size) := by rw [hw6]; exact (Touch.refl w5 (fun k => k = w.heap.size)).setCell (.inl rfl) _
  have hx6 : RamVar w6 w.heap.size (.slice p' D.length cap') (.slice q' M.length cap2') E := by
    rw [hw6]; exact heap_setCell_same w5 w.heap.size 1 _ 39 _ hx5
  have hb6 : Below w.heap.size w w6 := Touch.below hb5 ht6 (fun k hk => by omega) hb5.size
  have hr6 := hr5.touch ht6 (by omega)
  have hod6 : w6.ownsRow (w.heap.size + 2) 5 1 (.slice p' D.length cap') D.length (dC D) := owns_touch hod5 ht6 (fun g hg e => by have := (owns_lt hod2 hg).1; omega)
  have hom6 : w6.ownsRow w2.heap.size 22 1 (.slice q' M.length cap2') M.length (mC M) := owns_touch hom5 ht6 (fun g hg e => by have := (owns_lt hom5 hg).1; omega)
  obtain ⟨x0, x1, x2⟩ := hx2.cells
  have x3 := hx2.free 0
  obtain ⟨y0, y1, y2⟩ := hx5.cells
  have y3 := hx5.free 1
  obtain ⟨v0, v1, v2⟩ := hx3.cells
  obtain ⟨a0, a1, a2⟩ := hx4.cells
  obtain ⟨z0, z1, z2⟩ := hx6.cells
  obtain ⟨r0, r1, r2⟩ := hr6.cells
  have r3 := hr6.free 0
  have r4 := hr6.free 1
  have r5 := hr6.free 2
  have hfin := hr6.store (.slice p' D.length cap') (.slice q' M.length cap2') E
  have hpost : CopyMem w D M E (.returned (.agg #[.slice p' D.length cap', .slice q' M.length cap2', .int .u64 E])) (((w6.setCell ⟨w.heap.size + 1, 0, none⟩ (.slice p' D.length cap')).setCell ⟨w.heap.size + 1, 1, none⟩ (.slice q' M.length cap2')).setCell ⟨w.heap.size + 1, 2, none⟩ (.int .u64 E)) := by
    have ht : Touch w6 (((w6.setCell ⟨w.heap.size + 1, 0, none⟩ (.slice p' D.length cap')).setCell ⟨w.heap.size + 1, 1, none⟩ (.slice q' M.length cap2')).setCell ⟨w.heap.size + 1, 2, none⟩ (.int .u64 E)) (fun k => k = w.heap.size + 1) :=
      (((Touch.refl w6 (fun k => k = w.heap.size + 1)).setCell (.inl rfl) _).setCell (.inl rfl) _).setCell (.inl rfl) _
    refine ⟨_, _, rfl, ?_, ?_, ((hb6.setCell (Nat.le_succ _) _).setCell (Nat.le_succ _) _).setCell (Nat.le_succ _) _⟩
    · exact owns_base (owns_touch hod6 ht (fun g hg e => by have := (owns_lt hod6 hg).1; omega)) (by omega)
    · exact owns_base (owns_touch hom6 ht (fun g hg e => by have := (owns_lt hom6 hg).1; omega)) (by omega)
  have HPOST := Lib.hid hpost
  have HFIN := Lib.hid hfin
  clear hpost hfin hd hm hb1 hg1 hx1 hr1 hod2 ht2 hx2 hr2 hb2 hsz2 ht3 hs3 hx3 hb3 hr3 hod3 hbn hg4 hs4 hb4 hx4 hr4 hod4 hom5 ht5 hx5 hr5 hb5 hod5 ht6 hx6 hb6 hr6 hod6 hom6 hs1 h1 h2 ki5 kz5 ks5 kb5 ki24 kz24 ks24 kb24
  subst hw1 hw4 hw3 hw6
  go_enter Try.func14, Try.ntmps14
  have HR2 := Lib.hid hrun2
  have HR5 := Lib.hid hrun5
  clear hrun2 hrun5
  go_wp2_with (first | (at_builtin; (refine wpList_append_run rfl (.tmp 3) (.tmp 5) 36 rfl _ _ _ rfl rfl _ HR2.out ?_)) | (at_builtin; (refine wpList_append_run rfl (.tmp 8) (.tmp 10) 37 rfl _ _ _ rfl rfl _ HR5.out ?_)))
  obtain ⟨f0, f1, f2⟩ := HFIN.out.cells
  exact bodyPost_ret (v := .agg #[.slice p' D.length cap', .slice q' M.length cap2', .int .u64 E]) (by simp [results, Try.results14, go_sem, f0, f1, f2]) rfl HPOST.out
end Go.Proofs.Ytgflnfmnjlmenaa
