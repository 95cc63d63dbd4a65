/- Copy of the program. -/
import Derived.Test.YtnedhjaphfjdmaaRD
namespace Go
open Go.RowKit
/-- copy OF A WHOLE SLICE INTO A ROW OF THE SAME LENGTH. -/
theorem run_copy_all {P : Program} {w : World} (dT sT ty elem : TypeId) (hu : P.underlying dT = some (.slice elem)) (hsz : (P.info? elem).map (·.size) = some 1)
    (B n cap g : Nat) (xs : List Value) (hown : w.ownsRow B elem 1 (.slice (some ⟨g, 0, none⟩) n cap) n xs)
    (q : Option Addr) (c : Nat) (cells : List Value) (hr : Proofs.Ytnedhjaphfjdmaa.Reads w (.slice q n c) 1 n cells) (h1 : ∀ v ∈ cells, v.oneCell' = true) :
    ∃ w', (Builtin.copy_ #[dT, sT] ty #[.slice (some ⟨g, 0, none⟩) n cap, .slice q n c]).run P w = .ok (goInt n) w' ∧ w'.ownsRow B elem 1 (.slice (some ⟨g, 0, none⟩) n cap) n cells ∧
      Proofs.Ytnedhjaphfjdmaa.Touch w w' (fun k => k = g) := by
  obtain ⟨hl, hr⟩ := hr
  rw [Nat.mul_one] at hl
  by_cases h0 : n = 0
  · subst h0
    obtain rfl : cells = [] := List.eq_nil_of_length_eq_zero hl
    obtain rfl : xs = [] := List.eq_nil_of_length_eq_zero (by have := hown.1; omega)
    exact ⟨w, run_copy_none (P := P) w dT sT ty elem _ q _ cap 0 c hu hsz rfl, hown, Proofs.Ytnedhjaphfjdmaa.Touch.refl _ _⟩
  · rcases hr with ⟨_, e⟩ | ⟨ad, c2, e, _, _, hc⟩
    · exact absurd e h0
    · simp only [Value.slice.injEq, true_and] at e
      obtain ⟨rfl, rfl⟩ := e
      rcases hown.2 with ⟨e, _⟩ | ⟨g', cap', cur, e, k2, k3, k4, k5, k6, k7⟩
      · cases e
      · simp only [Value.slice.injEq, Option.some.injEq, Addr.mk.injEq, and_true, true_and] at e
        obtain ⟨rfl, rfl⟩ := e
        have hcl : cur.toList.length = cap := by rw [Array.length_toList, k6, Nat.mul_one]
        have hrun := run_copy_row (P := P) w dT sT ty elem g 0 n cap ad n c cur elem cells hu hsz k3 (by rw [hl]; exact (Nat.min_self n).symm) hc (by rw [hl, k6]; omega) h1
        rw [hl] at hrun
        refine ⟨_, hrun, ⟨by rw [hl, Nat.mul_one], .inr ⟨g, cap, _, rfl, k2, setRow_heap w g _ _ elem _ k3, k4, k5, ?_, ?_⟩⟩, ?_⟩
        · simp only [List.take_zero, List.nil_append, Nat.zero_add, List.size_toArray, List.length_append, List.length_drop, hl, hcl]
          omega
        · simp only [List.take_zero, List.nil_append, Nat.zero_add, Nat.mul_one]
          rw [List.take_append, hl, Nat.sub_self, List.take_zero, List.append_nil, List.take_of_length_le (by omega)]
        · exact (Proofs.Ytnedhjaphfjdmaa.Touch.refl w (fun k => k = g)).setRow (.inl rfl) _
end Go
namespace Go.Proofs.Ytnedhjaphfjdmaa
open Go.RowKit Go.Deep Go.Joins
def box0 (a b : Value) (E : Int) : Obj := .cells #[a, b, .int .u64 E] 39
/-- Two rows of noughts and the variable that holds them, behind the box of the argument and that of the result. -/
def CMade (w w0 : World) (n m : Nat) (E : Int) (s : Value) (wx : World) : Prop :=
  ∃ z g h, s = .pointer (some ⟨z, 0, none⟩) ∧ RamVar wx z (.slice (some ⟨g, 0, none⟩) n n) (.slice (some ⟨h, 0, none⟩) m m) E ∧ OwnD wx w.heap.size (.slice (some ⟨g, 0, none⟩) n n) (List.replicate n 0) ∧
    OwnM wx w.heap.size (.slice (some ⟨h, 0, none⟩) m m) (List.replicate m 0) ∧ w.heap.size + 1 < z ∧ w.heap.size + 1 < g ∧ w.heap.size + 1 < h ∧ Below (w.heap.size + 2) w0 wx
theorem cmade_mk {w w0 wx : World} {n m z g h : Nat} {E : Int} (h1 : wx.heap[z]? = some (.cells #[.slice (some ⟨g, 0, none⟩) n n, .slice (some ⟨h, 0, none⟩) m m, .int .u64 E] 39 (0, 0))) (h2 : wx.heap[g]? = some (.cells (dC (List.replicate n 0)).toArray 5 (0, 0)))
    (h3 : wx.heap[h]? = some (.cells (mC (List.replicate m 0)).toArray 22 (0, 0))) (hz : w.heap.size + 1 < z) (hg : w.heap.size + 1 < g) (hh : w.heap.size + 1 < h) (hn : n ≤ maxLen) (hm : m ≤ maxLen)
    (hb : Below (w.heap.size + 2) w0 wx) : CMade w w0 n m E (.pointer (some ⟨z, 0, none⟩)) wx := by
  refine ⟨z, g, h, rfl, h1, ?_, ?_, hz, hg, hh, hb⟩
  · have e := owns_whole (n := n) (Nat.le_of_lt (Nat.lt_of_succ_lt hg)) h2 (by simp [dC]) hn
    show wx.ownsRow _ _ _ _ _ _
    rw [List.length_replicate]; exact e
  · have e := owns_whole (n := m) (Nat.le_of_lt (Nat.lt_of_succ_lt hh)) h3 (by simp [mC]) hm
    show wx.ownsRow _ _ _ _ _ _
    rw [List.length_replicate]; exact e
/-- A copy, the call's own. -/
def CopyMem (w : World) (D : List UInt8) (M : List Int) (E : Int) (e : Ending) (w' : World) : Prop :=
  ∃ dv mv, e = .returned (.agg #[dv, mv, .int .u64 E]) ∧ OwnD w' w.heap.size dv D ∧ OwnM w' w.heap.size mv M ∧ Below w.heap.size w w'
set_option maxHeartbeats 2000000 in
theorem copy_any (dv mv : Value) (E : Int) (D : List UInt8) (M : List Int) (w : World) (hd : DAt w dv D) (hm : MAt w mv M) (hD : D.length ≤ 140737488351232) (hM : M.length ≤ 17592186043904) :
    Calls Try.prog 27 #[.agg #[dv, mv, .int .u64 E]] w (CopyMem w D M E) := by
  obtain ⟨p, cap, rfl⟩ := hd.is
  obtain ⟨q, cap2, rfl⟩ := hm.is
  have hmd := make_d D.length (by omega)
  have hmm := make_m M.length (by omega)
  go_enter Try.func27, Try.ntmps27
  go_upto_region 1 with fail
  go_cut [3] (fun s3 wx => CMade w ((w.alloc (.cells #[.slice p D.length cap, .slice q M.length cap2, .int .u64 E] 39)).alloc (.cells #[.slice none 0 0, .slice none 0 0, .int .u64 0] 39)) D.length M.length E s3 wx)
  case first =>
    go_region
    all_goals (go_wp2_with fail; go_meet)
    all_goals
      have hsz : ((w.alloc (Obj.cells #[.slice p D.length cap, .slice q M.length cap2, .int .u64 E] 39)).alloc (Obj.cells #[.slice none 0 0, .slice none 0 0, .int .u64 0] 39)).heap.size = w.heap.size + 1 + 1 := by rw [World.size_alloc, World.size_alloc]
      have hx1 : D.length ≤ maxLen := by unfold maxLen; omega
      have hx2 : M.length ≤ maxLen := by unfold maxLen; omega
      have hbl : ∀ o1 o2 o3, Below (w.heap.size + 2) ((w.alloc (Obj.cells #[.slice p D.length cap, .slice q M.length cap2, .int .u64 E] 39)).alloc (Obj.cells #[.slice none 0 0, .slice none 0 0, .int .u64 0] 39)) (((((w.alloc (Obj.cells #[.slice p D.length cap, .slice q M.length cap2, .int .u64 E] 39)).alloc (Obj.cells #[.slice none 0 0, .slice none 0 0, .int .u64 0] 39)).alloc o1).alloc o2).alloc o3).drew := fun o1 o2 o3 =>
        ((((Below.refl _ _).alloc (by simp) _).alloc (by simp) _).alloc (by simp) _).drew
      first | exact cmade_mk (new3 hsz).1 (new3 hsz).2.1 (new3 hsz).2.2 (by omega) (by omega) (by omega) hx1 hx2 (hbl _ _ _) | exact cmade_mk (new3 hsz).1 (new3 hsz).2.2 (new3 hsz).2.1 (by omega) (by omega) (by omega) hx1 hx2 (hbl _ _ _) | exact cmade_mk (new3 hsz).2.1 (new3 hsz).1 (new3 hsz).2.2 (by omega) (by omega) (by omega) hx1 hx2 (hbl _ _ _) | exact cmade_mk (new3 hsz).2.1 (new3 hsz).2.2 (new3 hsz).1 (by omega) (by omega) (by omega) hx1 hx2 (hbl _ _ _) | exact cmade_mk (new3 hsz).2.2 (new3 hsz).1 (new3 hsz).2.1 (by omega) (by omega) (by omega) hx1 hx2 (hbl _ _ _) | exact cmade_mk (new3 hsz).2.2 (new3 hsz).2.1 (new3 hsz).1 (by omega) (by omega) (by omega) hx1 hx2 (hbl _ _ _) | fail
  case rest =>
    clear hmd hmm
    obtain ⟨z, g, h, rfl, hv, hd2, hm2, hz, hg, hh, hb⟩ := hcut
    have hb0 : Below w.heap.size w wc := (below2 w _ _).trans (hb.mono (by omega))
    have hx : RamVar wc w.heap.size (.slice p D.length cap) (.slice q M.length cap2) E := (hb.block _ (by omega)).trans ((heap_alloc_old _ (by simp)).trans (heap_alloc_new _ _))
    have hr : RamVar wc (w.heap.size + 1) (.slice none 0 0) (.slice none 0 0) 0 := (hb.block _ (by omega)).trans (by have := heap_alloc_new (w.alloc (Obj.cells #[.slice p D.length cap, .slice q M.length cap2, .int .u64 E] 39)) (Obj.cells #[.slice none 0 0, .slice none 0 0, .int .u64 0] 39); rwa [World.size_alloc] at this)
    obtain ⟨c0, c1, c2⟩ := hv.cells
    obtain ⟨x0, x1, x2⟩ := hx.cells
    have hzg : z ≠ g := fun e => not_at hd2 hv (by decide) (by rw [e]; rfl)
    have hzh : z ≠ h := fun e => not_at hm2 hv (by decide) (by rw [e]; rfl)
    have hhg : h ≠ g := fun e => rows_apart hm2 hd2 (by decide) rfl (by rw [e]; rfl)
    have hod : wc.ownsRow w.heap.size 5 1 (.slice (some ⟨g, 0, none⟩) D.length D.length) D.length (dC (List.replicate D.length 0)) := by have := hd2; unfold OwnD at this; rwa [List.length_replicate] at this
    have hom : wc.ownsRow w.heap.size 22 1 (.slice (some ⟨h, 0, none⟩) M.length M.length) M.length (mC (List.replicate M.length 0)) := by have := hm2; unfold OwnM at this; rwa [List.length_replicate] at this
    have h1 : ∀ v ∈ dC D, v.oneCell' = true := fun v hv => by obtain ⟨_, _, rfl⟩ := List.mem_map.1 hv; rfl
    have h2 : ∀ v ∈ mC M, v.oneCell' = true := fun v hv => by obtain ⟨_, _, rfl⟩ := List.mem_map.1 hv; rfl
    obtain ⟨w2, hrun2, hod2, ht2⟩ := run_copy_all (P := Try.prog) 36 36 3 5 Try.underlying36 (by kernel_rfl) _ _ _ g _ hod p cap (dC D) (hd.below hb0) h1
    have hb2 : Below w.heap.size w w2 := Touch.below hb0 ht2 (fun k hk => by omega) hb0.size
    have hom2 := owns_touch hom ht2 (fun g' e e2 => hhg (by cases e; exact e2))
    obtain ⟨w3, hrun3, hom3, ht3⟩ := run_copy_all (P := Try.prog) 37 37 3 22 Try.underlying37 (by kernel_rfl) _ _ _ h _ hom2 q cap2 (mC M) (hm.below hb2) h2
    have hb3 : Below w.heap.size w w3 := Touch.below hb2 ht3 (fun k hk => by omega) hb2.size
    have hod3 := owns_touch hod2 ht3 (fun g' e e2 => hhg (by cases e; exact e2.symm))
    have hxg : w.heap.size ≠ g := by omega
    have hrh : w.heap.size + 1 ≠ h := by omega
    have hrg : w.heap.size + 1 ≠ g := by omega
    have hv2 := hv.touch ht2 hzg
    have hv3 := hv2.touch ht3 hzh
    have hr3 := (hr.touch ht2 hrg).touch ht3 hrh
    obtain ⟨d0, d1, d2⟩ := hv2.cells
    obtain ⟨e0, e1, e2⟩ := hv3.cells
    obtain ⟨y0, y1, y2⟩ := (hx.touch ht2 hxg).cells
    obtain ⟨r0, r1, r2⟩ := hr3.cells
    have r3 := hr3.free 0
    have r4 := hr3.free 1
    have r5 := hr3.free 2
    have hfin := hr3.store (.slice (some ⟨g, 0, none⟩) D.length D.length) (.slice (some ⟨h, 0, none⟩) M.length M.length) E
    have hpost : CopyMem w D M E (.returned (.agg #[.slice (some ⟨g, 0, none⟩) D.length D.length, .slice (some ⟨h, 0, none⟩) M.length M.length, .int .u64 E])) (((w3.setCell ⟨w.heap.size + 1, 0, none⟩ (.slice (some ⟨g, 0, none⟩) D.length D.length)).setCell ⟨w.heap.size + 1, 1, none⟩ (.slice (some ⟨h, 0, none⟩) M.length M.length)).setCell ⟨w.heap.size + 1, 2, none⟩ (.int .u64 E)) :=
      ⟨_, _, rfl, owns_touch hod3 ((((Touch.refl w3 (fun k => k = w.heap.size + 1)).setCell (.inl rfl) _).setCell (.inl rfl) _).setCell (.inl rfl) _) (fun g' e e2 => hrg (by cases e; exact e2.symm)),
        owns_touch hom3 ((((Touch.refl w3 (fun k => k = w.heap.size + 1)).setCell (.inl rfl) _).setCell (.inl rfl) _).setCell (.inl rfl) _) (fun g' e e2 => hrh (by cases e; exact e2.symm)),
        ((hb3.setCell (Nat.le_succ _) _).setCell (Nat.le_succ _) _).setCell (Nat.le_succ _) _⟩
    have HPOST := Lib.hid hpost
    have HFIN := Lib.hid hfin
    clear hv hx hr hm2 hd2 hb hb0 hd hm hod hom h1 h2 hod2 hom2 hom3 hod3 hb2 hb3 hv2 hv3 hr3 hfin hpost hxg hrh hrg hzg hzh hhg ht2 ht3
    go_wp2_with fail
    obtain ⟨f0, f1, f2⟩ := HFIN.out.cells
    exact bodyPost_ret (v := .agg #[.slice (some ⟨g, 0, none⟩) D.length D.length, .slice (some ⟨h, 0, none⟩) M.length M.length, .int .u64 E]) (by simp [results, Try.results27, go_sem, f0, f1, f2]) rfl HPOST.out
end Go.Proofs.Ytnedhjaphfjdmaa
