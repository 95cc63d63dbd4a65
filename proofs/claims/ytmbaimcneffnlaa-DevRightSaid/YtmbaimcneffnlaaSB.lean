/- DevSectors walked. -/
import Derived.Test.YtmbaimcneffnlaaSA
import Derived.Test.YtmbaimcneffnlaaAF
import Derived.Test.YtmbaimcneffnlaaAG
namespace Go.Proofs.Ytmbaimcneffnlaa
open Go.RowKit Go.Deep Go.Joins
theorem newZR (w : World) : Mem w ((w.alloc zeroO).alloc ramZO) [(w.heap.size + 1, ramZC, 49), (w.heap.size, bdC bdZ, 30)] [] := by
  have h := (Mem.start w).newZ.newR
  rwa [World.size_alloc] at h
set_option maxRecDepth 100000 in
set_option maxHeartbeats 2000000 in
theorem sec_wrong (b : Bd) (p1 q1 : Option Addr) (c1 d1 : Nat) (E sec fr tt : Int) (D : List UInt8) (M : List Int) (W : World) (c8 : RowKit.Hid (∀ W', Below W.heap.size W W' → Calls Try.prog 8 #[bdV b] W' fun e W'' => e = .returned (.bool false) ∧ Below W'.heap.size W' W'')) : Calls Try.prog 6 #[bdV b, .agg (ramC (.slice p1 D.length c1) (.slice q1 M.length d1) E), .int .u64 sec, .int .u64 fr, .int .u64 tt] W fun e W' => e = .returned (.bool true) ∧ Below W.heap.size W W' := by
  have h0 := ((Mem.start W).new (bdC b) 30 (by decide)).new (ramC (.slice p1 D.length c1) (.slice q1 M.length d1) E) 49 (by decide)
  rw [World.size_alloc] at h0
  have X := Lib.hid h0
  clear h0
  go_enter Try.func6, Try.ntmps6
  go_upto_region 1 with (fail)
  generalize (W.alloc (bdO b)).alloc (Obj.cells _ 49) = w0 at *
  go_wp2_with (first | (go_at_call 7; (with_reducible refine (awake_any _).mono ?_); rintro e w1 ⟨rfl, kk⟩; have X := Lib.hid (X.out.next kk); clear kk) | (with_reducible refine wpList_load_by rfl rfl (Box.load X.out.b1) rfl ?_) | (go_at_call 8; (with_reducible refine (c8.out _ X.out.below).mono ?_); rintro e w2 ⟨rfl, kk⟩; have X := Lib.hid (X.out.next kk); clear kk) | fail)
  go_ret
  exact ⟨rfl, X.out.below⟩
set_option maxRecDepth 100000 in
set_option maxHeartbeats 2000000 in
theorem sec_bad (b : Bd) (p1 q1 : Option Addr) (c1 d1 : Nat) (E sec fr tt : Int) (D : List UInt8) (M : List Int) (W : World) (k : Int) (hk : (k != 0) = true) (c8 : RowKit.Hid (∀ W', Below W.heap.size W W' → Calls Try.prog 8 #[bdV b] W' fun e W'' => e = .returned (.bool true) ∧ Below W'.heap.size W' W'')) (c24 : RowKit.Hid (∀ W', Below W.heap.size W W' → Calls Try.prog 24 #[.agg (ramC (.slice p1 D.length c1) (.slice q1 M.length d1) E)] W' fun e W'' => e = .returned (.int .i64 k) ∧ Below W'.heap.size W' W'')) : Calls Try.prog 6 #[bdV b, .agg (ramC (.slice p1 D.length c1) (.slice q1 M.length d1) E), .int .u64 sec, .int .u64 fr, .int .u64 tt] W fun e W' => e = .returned (.bool true) ∧ Below W.heap.size W W' := by
  have h0 := ((Mem.start W).new (bdC b) 30 (by decide)).new (ramC (.slice p1 D.length c1) (.slice q1 M.length d1) E) 49 (by decide)
  rw [World.size_alloc] at h0
  have X := Lib.hid h0
  clear h0
  go_enter Try.func6, Try.ntmps6
  go_upto_region 1 with (fail)
  generalize (W.alloc (bdO b)).alloc (Obj.cells _ 49) = w0 at *
  go_wp2_with (first | (go_at_call 7; (with_reducible refine (awake_any _).mono ?_); rintro e w1 ⟨rfl, kk⟩; have X := Lib.hid (X.out.next kk); clear kk) | (with_reducible refine wpList_load_by rfl rfl (Box.load X.out.b1) rfl ?_) | (go_at_call 8; (with_reducible refine (c8.out _ X.out.below).mono ?_); rintro e w2 ⟨rfl, kk⟩; have X := Lib.hid (X.out.next kk); clear kk) | ((with_reducible show wpList _ _ _ (⟨some 30, Op.load 49 (.tmp 6), _, _, _, _⟩ :: _) _ _); refine wpList_load_wanted (by kernel_rfl) rfl (ram_load X.out.g0) rfl ?_; simp only [Act.put, List.setIfInBounds_toArray, List.set_cons_zero, List.set_cons_succ]) | (go_at_call 24; (with_reducible refine (c24.out _ X.out.below).mono ?_); rintro e w3 ⟨rfl, kk⟩; have X := Lib.hid (X.out.next kk); clear kk) | fail)
  go_ret
  exact ⟨rfl, X.out.below⟩
set_option maxRecDepth 100000 in
set_option maxHeartbeats 2000000 in
theorem sec_none (b : Bd) (F : List ByteArray) (p1 q1 : Option Addr) (c1 d1 : Nat) (E sec fr tt : Int) (D : List UInt8) (M : List Int) (W : World) (n te : Int) (ts : ByteArray) (xb : Bd) (hte : (te != 0) = true) (hx : xb.done = true ∧ xb.bad = true ∧ xb.sec = b.sec) (c8 : RowKit.Hid (∀ W', Below W.heap.size W W' → Calls Try.prog 8 #[bdV b] W' fun e W'' => e = .returned (.bool true) ∧ Below W'.heap.size W' W'')) (c24 : RowKit.Hid (∀ W', Below W.heap.size W W' → Calls Try.prog 24 #[.agg (ramC (.slice p1 D.length c1) (.slice q1 M.length d1) E)] W' fun e W'' => e = .returned (.int .i64 0) ∧ Below W'.heap.size W' W''))
    (hn : sec.tmod 16 = n) (c25 : RowKit.Hid (∀ W', Below W.heap.size W W' → Calls Try.prog 25 #[.agg (ramC (.slice p1 D.length c1) (.slice q1 M.length d1) E), .int .u64 fr, .int .i64 64] W' fun e W'' => e = .returned (.tuple #[.string ts, .int .i64 te]) ∧ Below W'.heap.size W' W''))
    (cA : RowKit.Hid (∀ W', Below W.heap.size W W' → Calls Try.prog 21 #[bdV ({ b with sector := n, addr := fr } : Bd), .agg (ramC (.slice p1 D.length c1) (.slice q1 M.length d1) E), effV 3 ⟨#[]⟩] W' (Acted W' xb F E D M ⟨#[]⟩ false))) : Calls Try.prog 6 #[bdV b, .agg (ramC (.slice p1 D.length c1) (.slice q1 M.length d1) E), .int .u64 sec, .int .u64 fr, .int .u64 tt] W fun e W' => e = .returned (.bool true) ∧ Below W.heap.size W W' := by
  have h0 := ((Mem.start W).new (bdC b) 30 (by decide)).new (ramC (.slice p1 D.length c1) (.slice q1 M.length d1) E) 49 (by decide)
  rw [World.size_alloc] at h0
  have X := Lib.hid h0
  clear h0
  go_enter Try.func6, Try.ntmps6
  go_upto_region 1 with (fail)
  generalize (W.alloc (bdO b)).alloc (Obj.cells _ 49) = w0 at *
  go_upto_region 6 with (first | (go_at_call 7; (with_reducible refine (awake_any _).mono ?_); rintro e w1 ⟨rfl, kk⟩; have X := Lib.hid (X.out.next kk); clear kk) | (with_reducible refine wpList_load_by rfl rfl (Box.load X.out.b1) rfl ?_) | (go_at_call 8; (with_reducible refine (c8.out _ X.out.below).mono ?_); rintro e w2 ⟨rfl, kk⟩; have X := Lib.hid (X.out.next kk); clear kk) | ((with_reducible show wpList _ _ _ (⟨some 30, Op.load 49 (.tmp 6), _, _, _, _⟩ :: _) _ _); refine wpList_load_wanted (by kernel_rfl) rfl (ram_load X.out.g0) rfl ?_; simp only [Act.put, List.setIfInBounds_toArray, List.set_cons_zero, List.set_cons_succ]) | (go_at_call 24; (with_reducible refine (c24.out _ X.out.below).mono ?_); rintro e w3 ⟨rfl, kk⟩; have X := Lib.hid (X.out.next kk); clear kk) | (with_reducible refine Box.w_sector X.out.b1 rfl rfl rfl rfl ?_; intro wy hwy; have X := Lib.hid (X.out.p1 (cs' := bdC ({ b with sector := n })) hwy); clear hwy) | (with_reducible refine Box.w_addr X.out.b1 rfl rfl rfl rfl ?_; intro wy hwy; have X := Lib.hid (X.out.p1 (cs' := bdC (({ b with sector := n, addr := fr } : Bd))) hwy); clear hwy) | fail)
  go_upto_region 8 with (first | (with_reducible refine wpList_load_by rfl rfl (ram_load X.out.g0) rfl ?_) | (go_at_call 25; (with_reducible refine (c25.out _ X.out.below).mono ?_); rintro e w4 ⟨rfl, kk⟩; have X := Lib.hid (X.out.next kk); clear kk) | (with_reducible refine wpList_load_by rfl rfl (Box.load X.out.b1) rfl ?_) | (go_at_call 21; (with_reducible refine (cA.out _ X.out.below).mono ?_); rintro e w7 ⟨p, c, dv, mv, rfl, hf7, hd7, hm7, kk⟩; have X := Lib.hid (X.out.next kk); obtain ⟨p2, c2, rfl⟩ := hd7.is; obtain ⟨q2, d2, rfl⟩ := hm7.is; have Y := Lib.hid (newZR w7); have HF7 := Lib.hid hf7; clear kk hf7 hd7 hm7) | (with_reducible refine w_box Y.out.b1 rfl rfl rfl rfl ?_; intro wy hwy; have Y := Lib.hid (Y.out.p1 hwy); clear hwy) | (with_reducible refine w_ram Y.out.g0 rfl rfl rfl rfl rfl ?_; intro wy hwy; have Y := Lib.hid (Y.out.p0 hwy); clear hwy) | fail)
  have m1 : wy.cell? ⟨w7.heap.size, 7, none⟩ = some (.bool true) := hx.1 ▸ Y.out.b1.at_cell_done
  have m2 : wy.cell? ⟨w7.heap.size, 8, none⟩ = some (.bool true) := hx.2.1 ▸ Y.out.b1.at_cell_bad
  have m3 : wy.cell? ⟨w7.heap.size, 4, none⟩ = some (.string b.sec) := hx.2.2 ▸ Y.out.b1.at_cell_sec
  have m4 : wy.cell? ⟨W.heap.size, 4, none⟩ = some (.string b.sec) := (Box.next X.out.b1 Y.out.below).cell_sec
  generalize b.sec = sc at m3 m4
  go_wp2_with fail
  go_ret
  exact ⟨rfl, below_then X.out.below Y.out.below⟩
set_option maxRecDepth 100000 in
set_option maxHeartbeats 2000000 in
theorem sec_some (b : Bd) (F : List ByteArray) (p1 q1 : Option Addr) (c1 d1 : Nat) (E sec fr tt : Int) (D : List UInt8) (M : List Int) (D2 : List UInt8) (M2 : List Int) (W : World) (n te f2 : Int) (m m2 : Nat) (ts t2 pa su : ByteArray) (xb yb : Bd) (bb : Bool) (hte : te = 0) (hx : xb.done = true ∧ xb.bad = false ∧ xb.sec = (pa ++ ts) ++ su) (hk1 : IntKind.u64.wrap (64 * n) = m) (hk2 : m + 64 = m2) (hsz : m2 ≤ b.sec.size) (hs1 : b.sec.size = 1024) (hpa : b.sec.extract 0 m = pa) (hsu : b.sec.extract m2 b.sec.size = su) (hpz : pa.size = m) (htz : ts.size = 64) (hst : ((pa ++ ts) ++ su).size = b.sec.size) (c8 : RowKit.Hid (∀ W', Below W.heap.size W W' → Calls Try.prog 8 #[bdV b] W' fun e W'' => e = .returned (.bool true) ∧ Below W'.heap.size W' W'')) (c24 : RowKit.Hid (∀ W', Below W.heap.size W W' → Calls Try.prog 24 #[.agg (ramC (.slice p1 D.length c1) (.slice q1 M.length d1) E)] W' fun e W'' => e = .returned (.int .i64 0) ∧ Below W'.heap.size W' W''))
    (hn : sec.tmod 16 = n) (c25 : RowKit.Hid (∀ W', Below W.heap.size W W' → Calls Try.prog 25 #[.agg (ramC (.slice p1 D.length c1) (.slice q1 M.length d1) E), .int .u64 fr, .int .i64 64] W' fun e W'' => e = .returned (.tuple #[.string ts, .int .i64 te]) ∧ Below W'.heap.size W' W''))
    (cA : RowKit.Hid (∀ W', Below W.heap.size W W' → Calls Try.prog 21 #[bdV ({ b with sector := n, addr := fr } : Bd), .agg (ramC (.slice p1 D.length c1) (.slice q1 M.length d1) E), effV 3 ⟨#[]⟩] W' (Acted W' xb F E D M ⟨#[]⟩ false)))
    (cA2 : RowKit.Hid (∀ W' p c, FAt W' (.slice p F.length c) F → Below W.heap.size W W' → Calls Try.prog 21 #[bdV (({ xb with addr := tt } : Bd).at p F.length c), .agg (ramC (.slice p1 D.length c1) (.slice q1 M.length d1) E), effV 2 ⟨#[]⟩] W' (Acted W' yb F E D2 M2 ⟨#[]⟩ false)))
    (c25b : RowKit.Hid (∀ W' p c q d, DAt W' (.slice p D2.length c) D2 → Calls Try.prog 25 #[.agg (ramC (.slice p D2.length c) (.slice q M2.length d) E), .int .u64 tt, .int .i64 64] W' fun e W'' => e = .returned (.tuple #[.string t2, .int .i64 f2]) ∧ Below W'.heap.size W' W''))
    (hy : yb.done = true ∧ yb.bad = bb) (hf2 : (f2 != 0) = bb) (ht2 : bb = false → t2 = ts) : Calls Try.prog 6 #[bdV b, .agg (ramC (.slice p1 D.length c1) (.slice q1 M.length d1) E), .int .u64 sec, .int .u64 fr, .int .u64 tt] W fun e W' => e = .returned (.bool true) ∧ Below W.heap.size W W' := by
  subst hte
  have HN := Lib.hid hn
  have HK1 := Lib.hid hk1
  clear hn hk1
  have e1 := ext_front pa ts su m hpz
  have e2 := ext_back pa ts su m2 _ (by rw [ByteArray.size_append]; omega) hst.symm
  obtain ⟨ns, hns⟩ : ∃ x, ((pa ++ ts) ++ su) = x := ⟨_, rfl⟩
  rw [hns] at e1 e2 hst hx
  have HX := Lib.hid hx
  have k2 : wrap64 (m : Int) = m := by unfold wrap64; omega
  have k3 : wrap64 ((m : Int) + 64) = (m2 : Int) := by unfold wrap64; omega
  have i0 : (0 : Int) ≤ m := by omega
  have i1 : (m : Int) ≤ b.sec.size := by omega
  have i2 : (m2 : Int) ≤ b.sec.size := by omega
  have i3 : (0 : Int) ≤ m2 := by omega
  have i4 : m ≤ b.sec.size := by omega
  have HI := Lib.hid (And.intro HK1.out (And.intro k2 (And.intro k3 (And.intro i0 (And.intro i1 (And.intro i2 (And.intro i3 (And.intro i4 (And.intro hsz (And.intro hpa (And.intro hsu (And.intro e1 (And.intro e2 hst)))))))))))))
  have HY := Lib.hid (And.intro hy (And.intro hf2 ht2))
  have hn := HN.out
  clear HN HK1 k2 k3 i0 i1 i2 i3 i4 hsz hpa hsu e1 e2 hst hk2 hs1 hpz htz hns hx hy hf2 ht2
  have h0 := ((Mem.start W).new (bdC b) 30 (by decide)).new (ramC (.slice p1 D.length c1) (.slice q1 M.length d1) E) 49 (by decide)
  rw [World.size_alloc] at h0
  have X := Lib.hid h0
  clear h0
  go_enter Try.func6, Try.ntmps6
  go_upto_region 1 with (fail)
  generalize (W.alloc (bdO b)).alloc (Obj.cells _ 49) = w0 at *
  go_upto_region 6 with (first | (go_at_call 7; (with_reducible refine (awake_any _).mono ?_); rintro e w1 ⟨rfl, kk⟩; have X := Lib.hid (X.out.next kk); clear kk) | (with_reducible refine wpList_load_by rfl rfl (Box.load X.out.b1) rfl ?_) | (go_at_call 8; (with_reducible refine (c8.out _ X.out.below).mono ?_); rintro e w2 ⟨rfl, kk⟩; have X := Lib.hid (X.out.next kk); clear kk) | ((with_reducible show wpList _ _ _ (⟨some 30, Op.load 49 (.tmp 6), _, _, _, _⟩ :: _) _ _); refine wpList_load_wanted (by kernel_rfl) rfl (ram_load X.out.g0) rfl ?_; simp only [Act.put, List.setIfInBounds_toArray, List.set_cons_zero, List.set_cons_succ]) | (go_at_call 24; (with_reducible refine (c24.out _ X.out.below).mono ?_); rintro e w3 ⟨rfl, kk⟩; have X := Lib.hid (X.out.next kk); clear kk) | (with_reducible refine Box.w_sector X.out.b1 rfl rfl rfl rfl ?_; intro wy hwy; have X := Lib.hid (X.out.p1 (cs' := bdC ({ b with sector := n })) hwy); clear hwy) | (with_reducible refine Box.w_addr X.out.b1 rfl rfl rfl rfl ?_; intro wy hwy; have X := Lib.hid (X.out.p1 (cs' := bdC (({ b with sector := n, addr := fr } : Bd))) hwy); clear hwy) | fail)
  go_upto_region 8 with (first | (with_reducible refine wpList_load_by rfl rfl (ram_load X.out.g0) rfl ?_) | (go_at_call 25; (with_reducible refine (c25.out _ X.out.below).mono ?_); rintro e w4 ⟨rfl, kk⟩; have X := Lib.hid (X.out.next kk); clear kk) | (with_reducible refine wpList_load_by rfl rfl (Box.load X.out.b1) rfl ?_) | (go_at_call 21; (with_reducible refine (cA.out _ X.out.below).mono ?_); rintro e w7 ⟨p, c, dv, mv, rfl, hf7, hd7, hm7, kk⟩; have X := Lib.hid (X.out.next kk); obtain ⟨p2, c2, rfl⟩ := hd7.is; obtain ⟨q2, d2, rfl⟩ := hm7.is; have Y := Lib.hid (newZR w7); have HF7 := Lib.hid hf7; clear kk hf7 hd7 hm7) | (with_reducible refine w_box Y.out.b1 rfl rfl rfl rfl ?_; intro wy hwy; have Y := Lib.hid (Y.out.p1 hwy); clear hwy) | (with_reducible refine w_ram Y.out.g0 rfl rfl rfl rfl rfl ?_; intro wy hwy; have Y := Lib.hid (Y.out.p0 hwy); clear hwy) | fail)
  have m1 : wy.cell? ⟨w7.heap.size, 7, none⟩ = some (.bool true) := HX.out.1 ▸ Y.out.b1.at_cell_done
  have m2' : wy.cell? ⟨w7.heap.size, 8, none⟩ = some (.bool false) := HX.out.2.1 ▸ Y.out.b1.at_cell_bad
  have m3 : wy.cell? ⟨w7.heap.size, 4, none⟩ = some (.string ns) := HX.out.2.2 ▸ Y.out.b1.at_cell_sec
  have m4 : wy.cell? ⟨W.heap.size, 4, none⟩ = some (.string b.sec) := (Box.next X.out.b1 Y.out.below).cell_sec
  have m5 : wy.cell? ⟨W.heap.size, 5, none⟩ = some (.int .u64 n) := (Box.next X.out.b1 Y.out.below).cell_sector
  obtain ⟨k1, k2, k3, i0, i1, i2, i3, i4, i5, e1, e2, e3, e4, e5⟩ := HI.out
  generalize b.sec = sc at m4 i1 i2 i4 i5 e1 e2 e4 e5
  have j1 : (m : Int) ≤ ns.size := by rw [e5]; exact i1
  have j2 : (m2 : Int) ≤ ns.size := by rw [e5]; exact i2
  have j4 : m ≤ ns.size := by rw [e5]; exact i4
  have j5 : m2 ≤ ns.size := by rw [e5]; exact i5
  have j6 : ns.extract m2 ns.size = su := by rw [e5]; exact e4
  clear e4 e5
  go_upto_region 13 with (fail)
  go_quiet (fail)
  go_upto_region 15 with (fail)
  clear m1 m2' m3 m4 m5 k1 k2 k3 i0 i1 i2 i3 i4 i5 e1 e2 e3 j1 j2 j4 j5 j6
  replace Y := Lib.hid (Y.out.next (below_drewN (Below.refl _ _) nq))
  generalize wy.drewN nq = wa at Y ⊢
  go_upto_region 18 with (first | (with_reducible refine Box.w_addr Y.out.b1 rfl rfl rfl rfl ?_; intro wy hwy; have Y := Lib.hid (Y.out.p1 (cs' := bdC (({ xb with addr := tt } : Bd).at p F.length c)) hwy); clear hwy) | (with_reducible refine wpList_load_by rfl rfl (ram_load Z.out.g0) rfl ?_) | (with_reducible refine wpList_load_by rfl rfl (Box.load Y.out.b1) rfl ?_) | (with_reducible refine wpList_load_by rfl rfl (ram_load (cel_next X.out.g0 Y.out.below)) rfl ?_) | (go_at_call 21; (with_reducible refine (cA2.out _ _ _ (HF7.out.next Y.out.below) (below_then X.out.below Y.out.below)).mono ?_); rintro e w9 ⟨p4, c4, dv, mv, rfl, hf9, hd9, hm9, kk⟩; have Y := Lib.hid (Y.out.next kk); obtain ⟨p5, c5, rfl⟩ := hd9.is; obtain ⟨q5, d5, rfl⟩ := hm9.is; have Z := Lib.hid (newZR w9); have HD9 := Lib.hid hd9; clear kk hf9 hd9 hm9) | (with_reducible refine w_box Z.out.b1 rfl rfl rfl rfl ?_; intro wy hwy; have Z := Lib.hid (Z.out.p1 hwy); clear hwy) | (with_reducible refine w_ram Z.out.g0 rfl rfl rfl rfl rfl ?_; intro wy hwy; have Z := Lib.hid (Z.out.p0 hwy); clear hwy) | (go_at_call 25; (with_reducible refine (c25b.out _ _ _ _ _ (HD9.out.below Z.out.below)).mono ?_); rintro e w10 ⟨rfl, kk⟩; have Z := Lib.hid (Z.out.next kk); clear kk) | fail)
  obtain ⟨hy, hf2, ht2⟩ := HY.out
  have m1 : w10.cell? ⟨w9.heap.size, 7, none⟩ = some (.bool true) := hy.1 ▸ Z.out.b1.at_cell_done
  have m2' : w10.cell? ⟨w9.heap.size, 8, none⟩ = some (.bool bb) := hy.2 ▸ Z.out.b1.at_cell_bad
  clear hy
  cases bb with
  | true =>
    clear ht2
    go_wp2_with fail
    go_ret
    exact ⟨rfl, below_then X.out.below (below_then Y.out.below Z.out.below)⟩
  | false =>
    obtain rfl := ht2 rfl
    clear ht2
    go_wp2_with fail
    go_ret
    exact ⟨rfl, below_then X.out.below (below_then Y.out.below Z.out.below)⟩

end Go.Proofs.Ytmbaimcneffnlaa
