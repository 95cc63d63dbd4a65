/- BusMemory: what was stored is loaded. -/
import Derived.Test.YtnedhjaphfjdmaaBZ
import Derived.Laws.BitsAllLaws
namespace Go.Proofs.Ytnedhjaphfjdmaa
open Go.RowKit Go.Deep Go.Joins
theorem and_mask (x k : Nat) (hx : x < 18446744073709551616) (hk : 2 ^ k - 1 < 18446744073709551616) : bits .and .u64 (x : Int) ((2 ^ k - 1 : Nat) : Int) = ((x % 2 ^ k : Nat) : Int) := by
  have h := u64_and_nat x (2 ^ k - 1) hx hk
  rw [h, Nat.and_two_pow_sub_one_eq_mod]
theorem le_leL (x s : Nat) (hs : s = 1 ∨ s = 2 ∨ s = 4 ∨ s = 8) (hx : x < 18446744073709551616) : le ((leL x).take s) = x % 256 ^ s := by
  rcases hs with rfl | rfl | rfl | rfl
  all_goals simp [leL, le]
  all_goals omega
theorem spl_read (D : List UInt8) (k : Nat) (b : ByteArray) (h : k + b.size ≤ D.length) : ((spl D k b).drop k).take b.size = b.data.toList := by
  have hx : b.data.toList.length = b.size := by rw [Array.length_toList]; rfl
  unfold spl splice
  rw [List.drop_append, List.length_take, Nat.min_eq_left (by omega), Nat.sub_self, List.drop_zero, List.drop_eq_nil_of_le (by rw [List.length_take]; omega), List.nil_append, List.take_append, hx, Nat.sub_self, List.take_zero, List.append_nil, List.take_of_length_le (by omega)]
theorem stored_read (D : List UInt8) (k x size : Nat) (hs : size = 1 ∨ size = 2 ∨ size = 4 ∨ size = 8) (hx : x < 18446744073709551616) (h : k + size ≤ D.length) : le (((spl D k (bytesN x size)).drop k).take size) = x % 256 ^ size := by
  have hb : (bytesN x size).size = size := bytesN_size _ _ (by omega)
  have h1 := spl_read D k (bytesN x size) (by omega)
  rw [hb] at h1
  rw [h1]
  exact le_leL x size hs hx
abbrev lkC (t s v : Int) (rd : Bool) : Array Value := #[.int .u64 t, .int .i64 s, .int .u64 v, .bool rd]
theorem bounds_ld (D : List UInt8) (t s v : Int) (ht0 : 0 ≤ t) (hv : 0 ≤ v ∧ v ≤ 18446744073709551615) (hs : s = 1 ∨ s = 2 ∨ s = 4 ∨ s = 8) (hth : thereB D.length t s = true) : putB D.length t (bytesN v.toNat s.toNat) = true ∧ (putD D t (bytesN v.toNat s.toNat)).length = D.length ∧ stE D.length t s = 0 ∧ ldV (putD D t (bytesN v.toNat s.toNat)) t s = ((v.toNat % 256 ^ s.toNat : Nat) : Int) := by
  obtain ⟨_, ht2, ht3⟩ := there_iff.1 hth
  obtain ⟨k, rfl⟩ : ∃ k : Nat, t = k + 2147483648 := ⟨(t - 2147483648).toNat, by omega⟩
  obtain ⟨x, rfl⟩ : ∃ x : Nat, v = x := ⟨v.toNat, by omega⟩
  obtain ⟨size, rfl⟩ : ∃ n : Nat, s = n := ⟨s.toNat, by omega⟩
  simp only [Int.toNat_natCast]
  have hs' : size = 1 ∨ size = 2 ∨ size = 4 ∨ size = 8 := by omega
  have hk : k + size ≤ D.length := by omega
  have hbs : (bytesN x size).size = size := bytesN_size _ _ (by omega)
  have ePD : putD D (k + 2147483648) (bytesN x size) = spl D k (bytesN x size) := by
    unfold putD
    rw [if_pos ⟨by omega, by rw [hbs]; exact hth⟩, show ((k : Int) + 2147483648 - 2147483648).toNat = k by omega]
  have hpl : (spl D k (bytesN x size)).length = D.length := spl_length _ _ _ (by omega)
  have hl : loadsB (size : Int) = true := by unfold loadsB; simp; omega
  rw [ePD]
  refine ⟨by unfold putB; rw [hbs, hth]; simp, hpl, by unfold stE; rw [hl, hth]; rfl, ?_⟩
  unfold ldV stB
  rw [hpl, hl, hth]
  simp only [Bool.and_self, if_true]
  rw [show ((k : Int) + 2147483648 - 2147483648).toNat = k by omega, Int.toNat_natCast, stored_read D k x size hs' (by omega) hk]
theorem ok_loads (s : Int) : okB s = loadsB s := by
  unfold okB loadsB
  apply Bool.eq_iff_iff.2
  simp only [Bool.or_eq_true, decide_eq_true_eq, beq_iff_eq]
  omega
theorem stM_put (m : Mc) (p : Pt) (t s v : Int) (h1 : okB s = true) (h2 : putB p.D.length t (bytesN v.toNat s.toNat) = true) : stM m p t s v = (m, { p with D := putD p.D t (bytesN v.toNat s.toNat), M := putM p.D.length p.M m.E t (bytesN v.toNat s.toNat) }, true) := by
  unfold stM
  rw [if_neg (by rw [h1]; decide), if_pos h2]
theorem ldM_mem (m : Mc) (p : Pt) (t s : Int) (h : stE p.D.length t s = 0) : ldM m p t s = (m, p, ldV p.D t s, true) := by
  unfold ldM
  rw [if_pos h]
theorem stM_size (m : Mc) (p : Pt) (t s v : Int) (h : okB s = false) : stM m p t s v = (m, p, false) := by
  unfold stM
  rw [if_pos h]
theorem Mem.mcLk {W : World} (cs cs' : Array Value) : Mem W ((W.alloc (.cells cs 42)).alloc (.cells cs' 52)) [(W.heap.size + 1, cs', 52), (W.heap.size, cs, 42)] [] := by
  have h := ((Mem.start W).new cs 42 (by decide)).new cs' 52 (by decide)
  rwa [World.size_alloc] at h
theorem CP.not' {w : World} {N : Nat} {q : Option Addr} {c : Nat} {dv mv ov : Value} {p : Pt} {m : Mc} (h : CP w N q c dv mv ov p) {z g t : Nat} {cs : Array Value} (k : w.heap[g]? = some (.cells cs t (0, 0))) (ht : 5 ≠ t ∧ 22 ≠ t ∧ 62 ≠ t ∧ 9 ≠ t) (hk : Ow (atM m p.F.length q c dv mv ov) z g) : g = z := by
  rcases hk with hk | hk | hk | hk | hk
  · exact hk
  · exact absurd hk.symm (not_at h.d k ht.1)
  · exact absurd hk.symm (not_at h.mm k ht.2.1)
  · exact absurd hk.symm (not_at h.o k ht.2.2.1)
  · have hb := h.fr.blk
    change some g = (Value.slice q p.F.length c).ownBlock at hk
    cases q with
    | none => cases hk
    | some a =>
      simp only [Value.ownBlock, Option.some.injEq] at hk
      obtain ⟨h1, cur, h2⟩ := hb a _ _ rfl
      rw [← hk, k] at h2
      simp only [Option.some.injEq, Obj.cells.injEq] at h2
      exact absurd h2.2.1.symm ht.2.2.2
/-- A machine, a look and a copy of the machine, in variables. -/
structure One (W w : World) (m : Mc) (p : Pt) (t s v : Int) (rd : Bool) (z : Nat) (q : Option Addr) (c : Nat) (dv mv ov : Value) : Prop where
  a : MS w W.heap.size z (atM m p.F.length q c dv mv ov) p
  r : MBox w W.heap.size m
  l : w.heap[W.heap.size + 1]? = some (.cells (lkC t s v rd) 52 (0, 0))
  below : Below W.heap.size W w
  nr : ¬ Ow (atM m p.F.length q c dv mv ov) z W.heap.size
  nl : ¬ Ow (atM m p.F.length q c dv mv ov) z (W.heap.size + 1)
theorem one_mk {W w : World} {m : Mc} {p : Pt} {t s v : Int} {rd : Bool} {z : Nat} {q : Option Addr} {c : Nat} {dv mv ov : Value} (X : Mem W w [(z, mcC (atM m p.F.length q c dv mv ov), 42), (W.heap.size + 1, lkC t s v rd, 52), (W.heap.size, mcC m, 42)] []) (A : CP w W.heap.size q c dv mv ov p) : One W w m p t s v rd z q c dv mv ov := by
  have hn := X.nod
  simp only [List.map_cons, List.map_nil, List.nodup_cons, List.mem_cons, List.not_mem_nil, or_false, not_or] at hn
  obtain ⟨⟨n1, n2⟩, _⟩ := hn
  exact ⟨A.ms (X.big _ (List.mem_cons_self ..)) X.g0, X.g2, X.g1, X.below, fun h => n2 (A.not' X.g2 (by decide) h).symm, fun h => n1 (A.not' X.g1 (by decide) h).symm⟩
theorem POk.at' {m : Mc} {p : Pt} (h : POk m p) (n : Nat) (q : Option Addr) (c : Nat) (dv mv ov : Value) : POk (atM m n q c dv mv ov) p := ⟨⟨h.bd.addr, h.bd.nicA, h.bd.sector⟩, h.c, h.fz, h.fl, h.dl, h.ml⟩
set_option maxRecDepth 100000 in
set_option maxHeartbeats 4000000 in
theorem memory_size (m : Mc) (p : Pt) (t s v : Int) (rd : Bool) (W : World) (K : MR W m p) (ok : POk m p) (hO : (p.O.length + 1) * 32 ≤ 140737488355328) (ht : 0 ≤ t ∧ t ≤ 18446744073709551615) (hv : 0 ≤ v ∧ v ≤ 18446744073709551615) (hs : okB s = false) : Calls Try.prog 4 #[mcV m, .agg (lkC t s v rd)] W fun e W' => e = .returned (.bool true) ∧ Below W.heap.size W W' := by
  have C0 := Lib.hid awake_any
  have C1 := Lib.hid (fun W' (h : Below W.heap.size W W') => rmcopy_any m p W' (K.next h) ok.fl ok.dl ok.ml (by omega))
  have HK := Lib.hid K
  have HP := Lib.hid ok
  have HL := Lib.hid (And.intro hO (And.intro ht hv))
  have hne : s ≠ 1 ∧ s ≠ 2 ∧ s ≠ 4 ∧ s ≠ 8 := by unfold okB at hs; simpa [not_or, and_assoc] using hs
  have HS := Lib.hid hs
  have e1 : (s != 1) = true := bne_iff_ne.2 hne.1
  have e2 : (s != 2) = true := bne_iff_ne.2 hne.2.1
  have e4 : (s != 4) = true := bne_iff_ne.2 hne.2.2.1
  have e8 : (s != 8) = true := bne_iff_ne.2 hne.2.2.2
  clear K ok hO ht hv hs hne
  go_enter Try.func4, Try.ntmps4
  go_upto_region 1 with (fail)
  have X := Lib.hid (Mem.mcLk (W := W) (mcC m) (lkC t s v rd))
  generalize (W.alloc (Obj.cells (mcC m) 42)).alloc (Obj.cells (lkC t s v rd) 52) = wa at X ⊢
  go_upto_region 4 with (first | (go_at_call 7; (with_reducible refine (C0.out _).mono ?_); rintro e wb ⟨rfl, kk⟩; have X := Lib.hid (X.out.next kk); clear kk) | (with_reducible refine wpList_load_by rfl rfl (MBox.load X.out.m1) rfl ?_) | (go_at_call 12; (with_reducible refine (C1.out _ X.out.below).mono ?_); rintro e wn ⟨q, c, dv, mv, ov, rfl, h1, h2, h3, h4, kk⟩; have CA := Lib.hid (CP.base (CP.mk h1 h2 h3 h4) X.out.below.size); have X := Lib.hid (X.out.next kk); clear kk h1 h2 h3 h4) | (with_reducible refine wpList_store_by rfl rfl (MBox.store (atM m p.F.length q c dv mv ov) CA.out.one X.out.newM.g0 (by kernel_rfl)) rfl rfl ?_) | fail)
  have CA := Lib.hid ((CA.out.next (below1 wn mcZO)).over X.out.newM.g0 (mcC (atM m p.F.length q c dv mv ov)))
  have X := Lib.hid (X.out.newM.p0 (cs' := mcC (atM m p.F.length q c dv mv ov)) rfl)
  generalize wn.heap.size = z at X CA ⊢
  generalize (wn.alloc mcZO).setRow z (mcC (atM m p.F.length q c dv mv ov)) = wc at X CA ⊢
  have T := Lib.hid (one_mk X.out CA.out)
  clear X CA C0 C1
  have m_t : wc.cell? ⟨W.heap.size + 1, 0, none⟩ = some (.int .u64 t) := cell_of_row _ _ 0 _ 52 (0, 0) T.out.l
  have m_s : wc.cell? ⟨W.heap.size + 1, 1, none⟩ = some (.int .i64 s) := cell_of_row _ _ 1 _ 52 (0, 0) T.out.l
  have m_v : wc.cell? ⟨W.heap.size + 1, 2, none⟩ = some (.int .u64 v) := cell_of_row _ _ 2 _ 52 (0, 0) T.out.l
  have C5 := st_any z W.heap.size (atM m p.F.length q c dv mv ov) p t s v wc T.out.a T.out.below.size (HP.out.at' _ _ _ _ _ _) HL.out.1 HL.out.2.1 HL.out.2.2
  rw [stM_size _ _ _ _ _ HS.out] at C5
  have C5 := Lib.hid C5
  have X0 := Lib.hid (Mem.start wc)
  go_wp2_with (first | (go_at_call 15; (with_reducible refine C5.out.mono ?_); rintro e w1 ⟨rfl, q1, c1, dv1, mv1, ov1, M1, T1, O1⟩; have B1 := Lib.hid (Touch.below T.out.below T1 (fun k hk => (T.out.a.lt hk).1) T.out.below.size); have R1 := Lib.hid (show MBox w1 W.heap.size m from (T1.block W.heap.size T.out.r.lt T.out.nr).trans T.out.r); have M1 := Lib.hid M1; have X := Lib.hid (Mem.start w1); have CS := Lib.hid (fun w (h : Below w1.heap.size w1 w) => same_m _ m p w (M1.out.next h).rd (HK.out.next (below_then B1.out h)) ⟨rfl, rfl, rfl, rfl, rfl⟩); have LA := Lib.hid (fun w (h : Below w1.heap.size w1 w) => (M1.out.next h).box.load); have LR := Lib.hid (fun w (h : Below w1.heap.size w1 w) => (R1.out.next h).load); clear T1 O1 m_t m_s m_v) | ((with_reducible show wpList _ _ _ (⟨some 42, Op.load 42 _, _, _, _, _⟩ :: _) _ _); refine wpList_load_wanted (by kernel_rfl) rfl (LA.out _ X.out.below) rfl ?_; simp only [Act.put, List.setIfInBounds_toArray, List.set_cons_zero, List.set_cons_succ]) | ((with_reducible show wpList _ _ _ (⟨some 43, Op.load 42 _, _, _, _, _⟩ :: _) _ _); refine wpList_load_wanted (by kernel_rfl) rfl (LR.out _ X.out.below) rfl ?_; simp only [Act.put, List.setIfInBounds_toArray, List.set_cons_zero, List.set_cons_succ]) | (go_at_call 10; (with_reducible refine (CS.out _ X.out.below).mono ?_); rintro e wq ⟨rfl, kk⟩; have X := Lib.hid (X.out.next kk); clear kk) | fail)
  go_ret
  exact ⟨rfl, below_then B1.out X.out.below⟩

end Go.Proofs.Ytnedhjaphfjdmaa
