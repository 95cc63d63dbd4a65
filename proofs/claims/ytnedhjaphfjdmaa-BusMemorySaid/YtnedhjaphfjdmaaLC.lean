/- BusMemory: no such bytes. -/
import Derived.Test.YtnedhjaphfjdmaaLB
namespace Go.Proofs.Ytnedhjaphfjdmaa
open Go.RowKit Go.Deep Go.Joins
theorem One.next {W w w' : World} {m : Mc} {p : Pt} {t s v : Int} {rd : Bool} {z : Nat} {q : Option Addr} {c : Nat} {dv mv ov : Value} (h : One W w m p t s v rd z q c dv mv ov) (hb : Below w.heap.size w w') : One W w' m p t s v rd z q c dv mv ov :=
  ⟨h.a.next hb, h.r.next hb, (hb.block _ (Array.getElem?_eq_some_iff.1 h.l).1).trans h.l, below_then h.below hb, h.nr, h.nl⟩
theorem One.m_t {W w : World} {m : Mc} {p : Pt} {t s v : Int} {rd : Bool} {z : Nat} {q : Option Addr} {c : Nat} {dv mv ov : Value} (h : One W w m p t s v rd z q c dv mv ov) : w.cell? ⟨W.heap.size + 1, 0, none⟩ = some (.int .u64 t) := cell_of_row _ _ 0 _ 52 (0, 0) h.l
theorem One.m_s {W w : World} {m : Mc} {p : Pt} {t s v : Int} {rd : Bool} {z : Nat} {q : Option Addr} {c : Nat} {dv mv ov : Value} (h : One W w m p t s v rd z q c dv mv ov) : w.cell? ⟨W.heap.size + 1, 1, none⟩ = some (.int .i64 s) := cell_of_row _ _ 1 _ 52 (0, 0) h.l
theorem One.m_v {W w : World} {m : Mc} {p : Pt} {t s v : Int} {rd : Bool} {z : Nat} {q : Option Addr} {c : Nat} {dv mv ov : Value} (h : One W w m p t s v rd z q c dv mv ov) : w.cell? ⟨W.heap.size + 1, 2, none⟩ = some (.int .u64 v) := cell_of_row _ _ 2 _ 52 (0, 0) h.l
set_option maxRecDepth 100000 in
set_option maxHeartbeats 4000000 in
theorem memory_no (m : Mc) (p : Pt) (t s v : Int) (rd : Bool) (W : World) (K : MR W m p) (ok : POk m p) (hO : (p.O.length + 1) * 32 ≤ 140737488355328) (ht : 0 ≤ t ∧ t ≤ 18446744073709551615) (hv : 0 ≤ v ∧ v ≤ 18446744073709551615) (hs : s = 1 ∨ s = 2 ∨ s = 4 ∨ s = 8) (hth : thereB p.D.length t s = false) : Calls Try.prog 4 #[mcV m, .agg (lkC t s v rd)] W fun e W' => e = .returned (.bool true) ∧ Below W.heap.size W W' := by
  have C0 := Lib.hid awake_any
  have C1 := Lib.hid (fun W' (h : Below W.heap.size W W') => rmcopy_any m p W' (K.next h) ok.fl ok.dl ok.ml (by omega))
  have C6 := Lib.hid (fun w (h : Below W.heap.size W w) => rload_all m.dv m.mv (.int .u64 m.E) p.D t s w (K.next h).d ht.1 ht.2)
  have HK := Lib.hid K
  have HP := Lib.hid ok
  have HL := Lib.hid (And.intro hO (And.intro ht hv))
  have he : stE p.D.length t s = 50 := by
    unfold stE
    rw [show loadsB s = true by unfold loadsB; simpa using hs, hth]
    rfl
  rw [he] at C6
  clear K ok hO ht hv hth he
  rcases hs with rfl | rfl | rfl | rfl
  · go_enter Try.func4, Try.ntmps4
    go_upto_region 1 with (fail)
    have X := Lib.hid (Mem.mcLk (W := W) (mcC m) (lkC t 1 v rd))
    generalize (W.alloc (Obj.cells (mcC m) 42)).alloc (Obj.cells (lkC t 1 v rd) 52) = wa at X ⊢
    go_upto_region 4 with (first | (go_at_call 7; (with_reducible refine (C0.out _).mono ?_); rintro e wb ⟨rfl, kk⟩; have X := Lib.hid (X.out.next kk); clear kk) | (with_reducible refine wpList_load_by rfl rfl (MBox.load X.out.m1) rfl ?_) | (go_at_call 12; (with_reducible refine (C1.out _ X.out.below).mono ?_); rintro e wn ⟨q, c, dv, mv, ov, rfl, h1, h2, h3, h4, kk⟩; have CA := Lib.hid (CP.base (CP.mk h1 h2 h3 h4) X.out.below.size); have X := Lib.hid (X.out.next kk); clear kk h1 h2 h3 h4) | (with_reducible refine wpList_store_by rfl rfl (MBox.store (atM m p.F.length q c dv mv ov) CA.out.one X.out.newM.g0 (by kernel_rfl)) rfl rfl ?_) | fail)
    have CA := Lib.hid ((CA.out.next (below1 wn mcZO)).over X.out.newM.g0 (mcC (atM m p.F.length q c dv mv ov)))
    have X := Lib.hid (X.out.newM.p0 (cs' := mcC (atM m p.F.length q c dv mv ov)) rfl)
    generalize wn.heap.size = z at X CA ⊢
    generalize (wn.alloc mcZO).setRow z (mcC (atM m p.F.length q c dv mv ov)) = wc at X CA ⊢
    have T := Lib.hid (one_mk X.out CA.out)
    clear X CA C0 C1
    have m_t : wc.cell? ⟨W.heap.size + 1, 0, none⟩ = some (.int .u64 t) := cell_of_row _ _ 0 _ 52 (0, 0) T.out.l
    have m_s : wc.cell? ⟨W.heap.size + 1, 1, none⟩ = some (.int .i64 1) := cell_of_row _ _ 1 _ 52 (0, 0) T.out.l
    have m_v : wc.cell? ⟨W.heap.size + 1, 2, none⟩ = some (.int .u64 v) := cell_of_row _ _ 2 _ 52 (0, 0) T.out.l
    generalize ldV p.D t 1 = nl at C6
    go_wp2_with (first | ((with_reducible show wpList _ _ _ (⟨some 48, Op.load 39 _, _, _, _, _⟩ :: _) _ _); refine wpList_load_wanted (by kernel_rfl) rfl (MBox.load_ram T.out.r) rfl ?_; simp only [Act.put, List.setIfInBounds_toArray, List.set_cons_zero, List.set_cons_succ]) | (go_at_call 16; (with_reducible refine (C6.out _ T.out.below).mono ?_); rintro e wd ⟨rfl, kk⟩; have T := Lib.hid (T.out.next kk); clear kk m_t m_s m_v; have m_t := T.out.m_t; have m_s := T.out.m_s; have m_v := T.out.m_v) | fail)
    go_ret
    exact ⟨rfl, T.out.below⟩
  · go_enter Try.func4, Try.ntmps4
    go_upto_region 1 with (fail)
    have X := Lib.hid (Mem.mcLk (W := W) (mcC m) (lkC t 2 v rd))
    generalize (W.alloc (Obj.cells (mcC m) 42)).alloc (Obj.cells (lkC t 2 v rd) 52) = wa at X ⊢
    go_upto_region 4 with (first | (go_at_call 7; (with_reducible refine (C0.out _).mono ?_); rintro e wb ⟨rfl, kk⟩; have X := Lib.hid (X.out.next kk); clear kk) | (with_reducible refine wpList_load_by rfl rfl (MBox.load X.out.m1) rfl ?_) | (go_at_call 12; (with_reducible refine (C1.out _ X.out.below).mono ?_); rintro e wn ⟨q, c, dv, mv, ov, rfl, h1, h2, h3, h4, kk⟩; have CA := Lib.hid (CP.base (CP.mk h1 h2 h3 h4) X.out.below.size); have X := Lib.hid (X.out.next kk); clear kk h1 h2 h3 h4) | (with_reducible refine wpList_store_by rfl rfl (MBox.store (atM m p.F.length q c dv mv ov) CA.out.one X.out.newM.g0 (by kernel_rfl)) rfl rfl ?_) | fail)
    have CA := Lib.hid ((CA.out.next (below1 wn mcZO)).over X.out.newM.g0 (mcC (atM m p.F.length q c dv mv ov)))
    have X := Lib.hid (X.out.newM.p0 (cs' := mcC (atM m p.F.length q c dv mv ov)) rfl)
    generalize wn.heap.size = z at X CA ⊢
    generalize (wn.alloc mcZO).setRow z (mcC (atM m p.F.length q c dv mv ov)) = wc at X CA ⊢
    have T := Lib.hid (one_mk X.out CA.out)
    clear X CA C0 C1
    have m_t : wc.cell? ⟨W.heap.size + 1, 0, none⟩ = some (.int .u64 t) := cell_of_row _ _ 0 _ 52 (0, 0) T.out.l
    have m_s : wc.cell? ⟨W.heap.size + 1, 1, none⟩ = some (.int .i64 2) := cell_of_row _ _ 1 _ 52 (0, 0) T.out.l
    have m_v : wc.cell? ⟨W.heap.size + 1, 2, none⟩ = some (.int .u64 v) := cell_of_row _ _ 2 _ 52 (0, 0) T.out.l
    generalize ldV p.D t 2 = nl at C6
    go_wp2_with (first | ((with_reducible show wpList _ _ _ (⟨some 48, Op.load 39 _, _, _, _, _⟩ :: _) _ _); refine wpList_load_wanted (by kernel_rfl) rfl (MBox.load_ram T.out.r) rfl ?_; simp only [Act.put, List.setIfInBounds_toArray, List.set_cons_zero, List.set_cons_succ]) | (go_at_call 16; (with_reducible refine (C6.out _ T.out.below).mono ?_); rintro e wd ⟨rfl, kk⟩; have T := Lib.hid (T.out.next kk); clear kk m_t m_s m_v; have m_t := T.out.m_t; have m_s := T.out.m_s; have m_v := T.out.m_v) | fail)
    go_ret
    exact ⟨rfl, T.out.below⟩
  · go_enter Try.func4, Try.ntmps4
    go_upto_region 1 with (fail)
    have X := Lib.hid (Mem.mcLk (W := W) (mcC m) (lkC t 4 v rd))
    generalize (W.alloc (Obj.cells (mcC m) 42)).alloc (Obj.cells (lkC t 4 v rd) 52) = wa at X ⊢
    go_upto_region 4 with (first | (go_at_call 7; (with_reducible refine (C0.out _).mono ?_); rintro e wb ⟨rfl, kk⟩; have X := Lib.hid (X.out.next kk); clear kk) | (with_reducible refine wpList_load_by rfl rfl (MBox.load X.out.m1) rfl ?_) | (go_at_call 12; (with_reducible refine (C1.out _ X.out.below).mono ?_); rintro e wn ⟨q, c, dv, mv, ov, rfl, h1, h2, h3, h4, kk⟩; have CA := Lib.hid (CP.base (CP.mk h1 h2 h3 h4) X.out.below.size); have X := Lib.hid (X.out.next kk); clear kk h1 h2 h3 h4) | (with_reducible refine wpList_store_by rfl rfl (MBox.store (atM m p.F.length q c dv mv ov) CA.out.one X.out.newM.g0 (by kernel_rfl)) rfl rfl ?_) | fail)
    have CA := Lib.hid ((CA.out.next (below1 wn mcZO)).over X.out.newM.g0 (mcC (atM m p.F.length q c dv mv ov)))
    have X := Lib.hid (X.out.newM.p0 (cs' := mcC (atM m p.F.length q c dv mv ov)) rfl)
    generalize wn.heap.size = z at X CA ⊢
    generalize (wn.alloc mcZO).setRow z (mcC (atM m p.F.length q c dv mv ov)) = wc at X CA ⊢
    have T := Lib.hid (one_mk X.out CA.out)
    clear X CA C0 C1
    have m_t : wc.cell? ⟨W.heap.size + 1, 0, none⟩ = some (.int .u64 t) := cell_of_row _ _ 0 _ 52 (0, 0) T.out.l
    have m_s : wc.cell? ⟨W.heap.size + 1, 1, none⟩ = some (.int .i64 4) := cell_of_row _ _ 1 _ 52 (0, 0) T.out.l
    have m_v : wc.cell? ⟨W.heap.size + 1, 2, none⟩ = some (.int .u64 v) := cell_of_row _ _ 2 _ 52 (0, 0) T.out.l
    generalize ldV p.D t 4 = nl at C6
    go_wp2_with (first | ((with_reducible show wpList _ _ _ (⟨some 48, Op.load 39 _, _, _, _, _⟩ :: _) _ _); refine wpList_load_wanted (by kernel_rfl) rfl (MBox.load_ram T.out.r) rfl ?_; simp only [Act.put, List.setIfInBounds_toArray, List.set_cons_zero, List.set_cons_succ]) | (go_at_call 16; (with_reducible refine (C6.out _ T.out.below).mono ?_); rintro e wd ⟨rfl, kk⟩; have T := Lib.hid (T.out.next kk); clear kk m_t m_s m_v; have m_t := T.out.m_t; have m_s := T.out.m_s; have m_v := T.out.m_v) | fail)
    go_ret
    exact ⟨rfl, T.out.below⟩
  · go_enter Try.func4, Try.ntmps4
    go_upto_region 1 with (fail)
    have X := Lib.hid (Mem.mcLk (W := W) (mcC m) (lkC t 8 v rd))
    generalize (W.alloc (Obj.cells (mcC m) 42)).alloc (Obj.cells (lkC t 8 v rd) 52) = wa at X ⊢
    go_upto_region 4 with (first | (go_at_call 7; (with_reducible refine (C0.out _).mono ?_); rintro e wb ⟨rfl, kk⟩; have X := Lib.hid (X.out.next kk); clear kk) | (with_reducible refine wpList_load_by rfl rfl (MBox.load X.out.m1) rfl ?_) | (go_at_call 12; (with_reducible refine (C1.out _ X.out.below).mono ?_); rintro e wn ⟨q, c, dv, mv, ov, rfl, h1, h2, h3, h4, kk⟩; have CA := Lib.hid (CP.base (CP.mk h1 h2 h3 h4) X.out.below.size); have X := Lib.hid (X.out.next kk); clear kk h1 h2 h3 h4) | (with_reducible refine wpList_store_by rfl rfl (MBox.store (atM m p.F.length q c dv mv ov) CA.out.one X.out.newM.g0 (by kernel_rfl)) rfl rfl ?_) | fail)
    have CA := Lib.hid ((CA.out.next (below1 wn mcZO)).over X.out.newM.g0 (mcC (atM m p.F.length q c dv mv ov)))
    have X := Lib.hid (X.out.newM.p0 (cs' := mcC (atM m p.F.length q c dv mv ov)) rfl)
    generalize wn.heap.size = z at X CA ⊢
    generalize (wn.alloc mcZO).setRow z (mcC (atM m p.F.length q c dv mv ov)) = wc at X CA ⊢
    have T := Lib.hid (one_mk X.out CA.out)
    clear X CA C0 C1
    have m_t : wc.cell? ⟨W.heap.size + 1, 0, none⟩ = some (.int .u64 t) := cell_of_row _ _ 0 _ 52 (0, 0) T.out.l
    have m_s : wc.cell? ⟨W.heap.size + 1, 1, none⟩ = some (.int .i64 8) := cell_of_row _ _ 1 _ 52 (0, 0) T.out.l
    have m_v : wc.cell? ⟨W.heap.size + 1, 2, none⟩ = some (.int .u64 v) := cell_of_row _ _ 2 _ 52 (0, 0) T.out.l
    generalize ldV p.D t 8 = nl at C6
    go_wp2_with (first | ((with_reducible show wpList _ _ _ (⟨some 48, Op.load 39 _, _, _, _, _⟩ :: _) _ _); refine wpList_load_wanted (by kernel_rfl) rfl (MBox.load_ram T.out.r) rfl ?_; simp only [Act.put, List.setIfInBounds_toArray, List.set_cons_zero, List.set_cons_succ]) | (go_at_call 16; (with_reducible refine (C6.out _ T.out.below).mono ?_); rintro e wd ⟨rfl, kk⟩; have T := Lib.hid (T.out.next kk); clear kk m_t m_s m_v; have m_t := T.out.m_t; have m_s := T.out.m_s; have m_v := T.out.m_v) | fail)
    go_ret
    exact ⟨rfl, T.out.below⟩

end Go.Proofs.Ytnedhjaphfjdmaa
