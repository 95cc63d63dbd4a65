/- BusPlays: the walk. -/
import Derived.Test.YtnedhjaphfjdmaaYQH
import Derived.Test.YtnedhjaphfjdmaaYMB
import Derived.Test.YtnedhjaphfjdmaaYBX
namespace Go.Proofs.Ytnedhjaphfjdmaa
open Go.RowKit Go.Deep Go.Joins
noncomputable abbrev mcZO : Obj := .cells Try.zeroCells42 42
theorem Mem.newM {W w : World} {l : List (Nat × Array Value × Nat)} {r : List (Nat × Value × Nat × List Value)} (h : Mem W w l r) : Mem W (w.alloc mcZO) ((w.heap.size, Try.zeroCells42, 42) :: l) r := h.new _ 42 (by decide)
theorem calls_cp {f : FuncId} {args : Array Value} {w : World} {m : Mc} {p : Pt} (h : Calls Try.prog f args w fun e W' => ∃ q c dv mv ov, e = .returned (mcV { m with b := m.b.at q p.F.length c, dv := dv, mv := mv, ov := ov }) ∧ FT W' w.heap.size (.slice q p.F.length c) p.F ∧ OwnD W' w.heap.size dv p.D ∧ OwnM W' w.heap.size mv p.M ∧ W'.ownsRow w.heap.size 62 3 ov p.O.length (oC p.O) ∧ Below w.heap.size w W') :
    Calls Try.prog f args w fun e w' => ∃ u, e = .returned u ∧ (∃ q c dv mv ov, u = mcV (atM m p.F.length q c dv mv ov) ∧ CP w' w.heap.size q c dv mv ov p ∧ Below w.heap.size w w') :=
  h.mono fun _ _ ⟨q, c, dv, mv, ov, he, h1, h2, h3, h4, hb⟩ => ⟨_, he, q, c, dv, mv, ov, rfl, ⟨h1, h2, h3, h4⟩, hb⟩
theorem CP.one {w : World} {N : Nat} {q : Option Addr} {c : Nat} {dv mv ov : Value} {p : Pt} {m : Mc} (h : CP w N q c dv mv ov p) : Mc1 (atM m p.F.length q c dv mv ov) := ⟨one_t h.d, one_t h.mm, one_t h.o⟩
/-- Two copies in two variables. -/
structure Two (W w : World) (m : Mc) (p : Pt) (x y : Nat) (qa : Option Addr) (ca : Nat) (dva mva ova : Value) (qb : Option Addr) (cb : Nat) (dvb mvb ovb : Value) : Prop where
  a : MS w W.heap.size x (atM m p.F.length qa ca dva mva ova) p
  b : MS w W.heap.size y (atM m p.F.length qb cb dvb mvb ovb) p
  r : MBox w W.heap.size m
  below : Below W.heap.size W w
  apart : ∀ k, Ow (atM m p.F.length qa ca dva mva ova) x k → ¬ Ow (atM m p.F.length qb cb dvb mvb ovb) y k
  ra : ¬ Ow (atM m p.F.length qa ca dva mva ova) x W.heap.size
  rb : ¬ Ow (atM m p.F.length qb cb dvb mvb ovb) y W.heap.size
theorem POk.at {m : Mc} {p : Pt} (h : POk m p) (n : Nat) (q : Option Addr) (c : Nat) (dv mv ov : Value) : POk (atM m n q c dv mv ov) p := ⟨⟨h.bd.addr, h.bd.nicA, h.bd.sector⟩, h.c, h.fz, h.fl, h.dl, h.ml⟩
theorem CP.not {w : World} {N : Nat} {q : Option Addr} {c : Nat} {dv mv ov : Value} {p : Pt} {m : Mc} (h : CP w N q c dv mv ov p) {z g : Nat} {cs : Array Value} (k : w.heap[g]? = some (.cells cs 42 (0, 0))) (hk : Ow (atM m p.F.length q c dv mv ov) z g) : g = z := by
  rcases hk with hk | hk | hk | hk | hk
  · exact hk
  · exact absurd hk.symm (not_at h.d k (by decide))
  · exact absurd hk.symm (not_at h.mm k (by decide))
  · exact absurd hk.symm (not_at h.o k (by decide))
  · have hb := h.fr.blk
    change some g = (Value.slice q p.F.length c).ownBlock at hk
    cases q with
    | none => cases hk
    | some a =>
      simp only [Value.ownBlock, Option.some.injEq] at hk
      obtain ⟨h1, cur, h2⟩ := hb a _ _ rfl
      rw [← hk, k] at h2
      simp at h2
theorem two_mk {W w w0 : World} {m : Mc} {p : Pt} {x y : Nat} {qa qb : Option Addr} {ca cb : Nat} {dva mva ova dvb mvb ovb : Value} (X : Mem W w [(y, mcC (atM m p.F.length qb cb dvb mvb ovb), 42), (x, mcC (atM m p.F.length qa ca dva mva ova), 42), (W.heap.size, mcC m, 42)] []) (HA : CP w0 W.heap.size qa ca dva mva ova p) (A : CP w W.heap.size qa ca dva mva ova p) (B : CP w w0.heap.size qb cb dvb mvb ovb p) (hB : W.heap.size ≤ w0.heap.size) : Two W w m p x y qa ca dva mva ova qb cb dvb mvb ovb := by
  have hn := X.nod
  simp only [List.map_cons, List.map_nil, List.nodup_cons, List.mem_cons, List.not_mem_nil, or_false, not_or] at hn
  obtain ⟨⟨n1, n2⟩, n3, _⟩ := hn
  refine ⟨A.ms (X.big _ (List.mem_cons_of_mem _ (List.mem_cons_self ..))) X.g1, (B.base hB).ms (X.big _ (List.mem_cons_self ..)) X.g0, X.g2, X.below, fun k h1 h2 => ?_, fun h => n3 (A.not X.g2 h).symm, fun h => n2 (B.not X.g2 h).symm⟩
  rcases HA.lt h1 with e | ⟨_, e⟩
  · subst e
    exact n1 (B.not X.g1 h2).symm
  · rcases B.lt h2 with e' | ⟨e', _⟩
    · subst e'
      exact n1 (A.not X.g0 h1)
    · omega
theorem two_pair {W w : World} {m : Mc} {p : Pt} {x y : Nat} {qa qb : Option Addr} {ca cb : Nat} {dva mva ova dvb mvb ovb : Value} (T : Two W w m p x y qa ca dva mva ova qb cb dvb mvb ovb) (ok : POk m p) (he : PlE m) : Pair W w x y (atM m p.F.length qa ca dva mva ova) (atM m p.F.length qb cb dvb mvb ovb) p p.O.length :=
  ⟨T.a, T.b, T.below, T.apart, like_of m _ _ _ _ _ _ _ _ _ _ _ _, ok.at _ _ _ _ _ _, he, Nat.le_refl _⟩
theorem calls_bcp {f : FuncId} {args : Array Value} {w : World} {m : Mc} {p : Pt} (h : Calls Try.prog f args w fun e W' => ∃ q c dv mv ov, e = .returned (mcV { m with b := m.b.at q p.F.length c, dv := dv, mv := mv, ov := ov }) ∧ FT W' w.heap.size (.slice q p.F.length c) p.F ∧ OwnD W' w.heap.size dv p.D ∧ OwnM W' w.heap.size mv p.M ∧ W'.ownsRow w.heap.size 62 3 ov p.O.length (oC p.O) ∧ Below w.heap.size w W') :
    Calls Try.prog f args w fun e w' => ∃ u, e = .returned u ∧ (∃ r, u = mcV r ∧ MR w' r p ∧ Like r m ∧ Below w.heap.size w w') :=
  h.mono fun _ _ ⟨_, _, _, _, _, he, h1, h2, h3, h4, hb⟩ => ⟨_, he, _, rfl, ⟨h1.rd, h2.at, h3.at, reads_of_owns h4⟩, ⟨rfl, rfl, rfl, rfl, rfl⟩, hb⟩
set_option maxRecDepth 100000 in
set_option maxHeartbeats 4000000 in
theorem plays_walk (m : Mc) (p : Pt) (L : List Lk) (lq : Option Addr) (lc : Nat) (W : World) (K : MR W m p) (ok : POk m p) (he : PlE m) (hO : p.O.length * 32 ≤ 140737488351232) (hL : Reads W (.slice lq L.length lc) 4 L.length (lkR L)) (hu : ∀ l ∈ L, (0 ≤ l.1 ∧ l.1 ≤ 18446744073709551615) ∧ (0 ≤ l.2.2.1 ∧ l.2.2.1 ≤ 18446744073709551615)) : Calls Try.prog 3 #[mcV m, .slice lq L.length lc] W fun e W' => e = .returned (.bool true) ∧ Below W.heap.size W W' := by
  have C0 := Lib.hid awake_any
  have C1 := Lib.hid (fun W' (h : Below W.heap.size W W') => rmcopy_any m p W' (K.next h) ok.fl ok.dl ok.ml (by omega))
  have CB := Lib.hid (fun W' (h : Below W.heap.size W W') => bcopy_any m p W' (K.next h) ok.fl ok.dl ok.ml (by omega))
  have CL := Lib.hid (fun W' => lines_m m p W' K.fr.len)
  have CR := Lib.hid (fun W' => rlines_m m p W' K.fr.len)
  have HK := Lib.hid K
  have HP := Lib.hid (And.intro ok he)
  have HL := Lib.hid (And.intro hL hu)
  have HO := Lib.hid hO
  have HLL := Reads.le hL
  clear K ok hO hL hu he
  generalize linesV m p = lv at CL CR
  go_enter Try.func3, Try.ntmps3
  have X := Lib.hid ((Mem.start W).new (mcC m) 42 (by decide))
  go_upto_region 1 with (fail)
  generalize W.alloc (.cells (mcC m) 42) = wa at X ⊢
  refine dr (fun w => MBox w W.heap.size m) fun wz hzz => ?_
  have X := Lib.hid (X.out.next hzz)
  clear hzz
  have hS : MBox wz W.heap.size m := X.out.g0
  refine hc 0 (calls_told (C0.out _)) ?_
  rintro v' wb ⟨rfl, kk⟩
  have X := Lib.hid (X.out.next kk)
  refine ⟨X.out.g0, fun hS => ?_⟩
  clear kk
  simp only [puts]
  refine tk 1 hS ?_
  refine tk 2 hS ?_
  refine tl 3 hS (fun w hw => MBox.load hw) ?_
  refine tl 5 hS (fun w hw => MBox.load hw) ?_
  refine hc 4 (calls_told (CL.out _)) ?_
  rintro v' wb ⟨rfl, kk⟩
  have X := Lib.hid (X.out.next kk)
  refine ⟨X.out.g0, fun hS => ?_⟩
  clear kk
  simp only [puts]
  refine hc 6 (calls_told (CR.out _)) ?_
  rintro v' wb ⟨rfl, kk⟩
  have X := Lib.hid (X.out.next kk)
  refine ⟨X.out.g0, fun hS => ?_⟩
  clear kk
  simp only [puts]
  refine tk 7 hS ?_
  refine tk 8 hS ?_
  refine tk 9 hS ?_
  refine tl 10 hS (fun w hw => MBox.load hw) ?_
  refine tl 12 hS (fun w hw => MBox.load hw) ?_
  refine hc 11 (calls_bcp (CB.out _ X.out.below)) ?_
  rintro v' wb ⟨rr, rfl, hmr, hlk, kk⟩
  have X := Lib.hid (X.out.next kk)
  have CS := Lib.hid (same_m rr m p wb hmr (HK.out.next X.out.below) hlk)
  refine ⟨X.out.g0, fun hS => ?_⟩
  clear kk hmr hlk
  simp only [puts]
  refine hc 13 (calls_told CS.out) ?_
  rintro v' wb ⟨rfl, kk⟩
  have X := Lib.hid (X.out.next kk)
  refine ⟨X.out.g0, fun hS => ?_⟩
  clear kk CS
  simp only [puts]
  refine tk 14 hS ?_
  refine tk 15 hS ?_
  refine wpAnyH_done (by kernel_rfl) ?_ _
  clear C0 CL CR CB hS
  go_upto_region 3 with (fail)
  go_cut [5, 6] (fun s9 s10 wx => ∃ x y qa ca dva mva ova qb cb dvb mvb ovb, s9 = .pointer (some ⟨x, 0, none⟩) ∧ s10 = .pointer (some ⟨y, 0, none⟩) ∧ RowKit.Hid (Two W wx m p x y qa ca dva mva ova qb cb dvb mvb ovb))
  case first =>
    refine dr (fun w => MBox w W.heap.size m) fun wn hzz => ?_
    have X := Lib.hid (X.out.next hzz)
    clear hzz
    have hS := X.out.g0
    refine tl 0 hS (fun w hw => MBox.load hw) ?_
    refine tl 2 hS (fun w hw => MBox.load hw) ?_
    refine three 1 4 5 (cc 1 (calls_cp (C1.out _ X.out.below)) ?_ (al 4 X.out.newM.g1 ?_ (al 5 X.out.newM.g1 ?_ AllReadyH.nil)))
    rintro v' wn ⟨qa, ca, dva, mva, ova, rfl, kA, kk⟩
    have CA := Lib.hid (kA.base X.out.below.size)
    have X := Lib.hid (X.out.next kk)
    refine ⟨X.out.g0, fun hS => ?_⟩
    clear kk kA
    simp only [puts]
    refine three 3 4 5 (cc 3 (calls_cp (C1.out _ X.out.below)) ?_ (al 4 X.out.newM.g1 ?_ (al 5 X.out.newM.g1 ?_ AllReadyH.nil)))
    rintro v' wn ⟨qb, cb, dvb, mvb, ovb, rfl, kB, kk⟩
    have CB := Lib.hid kB
    have HA := CA
    have HB3 := Lib.hid X.out.below.size
    have CA := Lib.hid (CA.out.next kk)
    have X := Lib.hid (X.out.next kk)
    refine ⟨X.out.g0, fun hS => ?_⟩
    clear kk kB
    simp only [puts]
    refine two 4 5 (al 4 X.out.newM.g1 ?_ (al 5 X.out.newM.g1 ?_ AllReadyH.nil))
    have X := Lib.hid X.out.newM
    have CA := Lib.hid (CA.out.next (below1 wn mcZO))
    have CB := Lib.hid (CB.out.next (below1 wn mcZO))
    generalize wn.heap.size = x at X ⊢
    generalize wn.alloc mcZO = wn at X CA CB ⊢
    have hS := X.out.g1
    refine ho 5 X.out.newM.g2 ?_
    have X := Lib.hid X.out.newM
    have CA := Lib.hid (CA.out.next (below1 wn mcZO))
    have CB := Lib.hid (CB.out.next (below1 wn mcZO))
    generalize wn.heap.size = y at X ⊢
    generalize wn.alloc mcZO = wn at X CA CB ⊢
    have hS := X.out.g2
    rotate_left
    have X := Lib.hid X.out.newM
    have CA := Lib.hid (CA.out.next (below1 wn mcZO))
    have CB := Lib.hid (CB.out.next (below1 wn mcZO))
    generalize wn.heap.size = y at X ⊢
    generalize wn.alloc mcZO = wn at X CA CB ⊢
    have hS := X.out.g1
    refine ho 4 X.out.newM.g2 ?_
    have X := Lib.hid X.out.newM
    have CA := Lib.hid (CA.out.next (below1 wn mcZO))
    have CB := Lib.hid (CB.out.next (below1 wn mcZO))
    generalize wn.heap.size = x at X ⊢
    generalize wn.alloc mcZO = wn at X CA CB ⊢
    have X := Lib.hid X.out.swap
    have hS := X.out.g2
    rotate_left
    have X := Lib.hid X.out.newM
    have CA := Lib.hid (CA.out.next (below1 wn mcZO))
    generalize wn.heap.size = x at X ⊢
    generalize wn.alloc mcZO = wn at X CA ⊢
    have hS := X.out.g1
    refine two 3 5 (cc 3 (calls_cp (C1.out _ X.out.below)) ?_ (al 5 X.out.newM.g2 ?_ AllReadyH.nil))
    rintro v' wn ⟨qb, cb, dvb, mvb, ovb, rfl, kB, kk⟩
    have CB := Lib.hid kB
    have HA := CA
    have HB3 := Lib.hid X.out.below.size
    have CA := Lib.hid (CA.out.next kk)
    have X := Lib.hid (X.out.next kk)
    refine ⟨X.out.g1, fun hS => ?_⟩
    clear kk kB
    simp only [puts]
    refine ho 5 X.out.newM.g2 ?_
    have X := Lib.hid X.out.newM
    have CA := Lib.hid (CA.out.next (below1 wn mcZO))
    have CB := Lib.hid (CB.out.next (below1 wn mcZO))
    generalize wn.heap.size = y at X ⊢
    generalize wn.alloc mcZO = wn at X CA CB ⊢
    have hS := X.out.g2
    rotate_left
    have X := Lib.hid X.out.newM
    have CA := Lib.hid (CA.out.next (below1 wn mcZO))
    generalize wn.heap.size = y at X ⊢
    generalize wn.alloc mcZO = wn at X CA ⊢
    have hS := X.out.g2
    refine hc 3 (calls_cp (C1.out _ X.out.below)) ?_
    rintro v' wn ⟨qb, cb, dvb, mvb, ovb, rfl, kB, kk⟩
    have CB := Lib.hid kB
    have HA := CA
    have HB3 := Lib.hid X.out.below.size
    have CA := Lib.hid (CA.out.next kk)
    have X := Lib.hid (X.out.next kk)
    refine ⟨X.out.g2, fun hS => ?_⟩
    clear kk kB
    simp only [puts]
    rotate_left
    have X := Lib.hid X.out.newM
    have CA := Lib.hid (CA.out.next (below1 wn mcZO))
    generalize wn.heap.size = y at X ⊢
    generalize wn.alloc mcZO = wn at X CA ⊢
    have hS := X.out.g1
    refine two 3 4 (cc 3 (calls_cp (C1.out _ X.out.below)) ?_ (al 4 X.out.newM.g2 ?_ AllReadyH.nil))
    rintro v' wn ⟨qb, cb, dvb, mvb, ovb, rfl, kB, kk⟩
    have CB := Lib.hid kB
    have HA := CA
    have HB3 := Lib.hid X.out.below.size
    have CA := Lib.hid (CA.out.next kk)
    have X := Lib.hid (X.out.next kk)
    refine ⟨X.out.g1, fun hS => ?_⟩
    clear kk kB
    simp only [puts]
    refine ho 4 X.out.newM.g2 ?_
    have X := Lib.hid X.out.newM
    have CA := Lib.hid (CA.out.next (below1 wn mcZO))
    have CB := Lib.hid (CB.out.next (below1 wn mcZO))
    generalize wn.heap.size = x at X ⊢
    generalize wn.alloc mcZO = wn at X CA CB ⊢
    have X := Lib.hid X.out.swap
    have hS := X.out.g2
    rotate_left
    have X := Lib.hid X.out.newM
    have CA := Lib.hid (CA.out.next (below1 wn mcZO))
    generalize wn.heap.size = x at X ⊢
    generalize wn.alloc mcZO = wn at X CA ⊢
    have X := Lib.hid X.out.swap
    have hS := X.out.g2
    refine hc 3 (calls_cp (C1.out _ X.out.below)) ?_
    rintro v' wn ⟨qb, cb, dvb, mvb, ovb, rfl, kB, kk⟩
    have CB := Lib.hid kB
    have HA := CA
    have HB3 := Lib.hid X.out.below.size
    have CA := Lib.hid (CA.out.next kk)
    have X := Lib.hid (X.out.next kk)
    refine ⟨X.out.g2, fun hS => ?_⟩
    clear kk kB
    simp only [puts]
    rotate_left
    have X := Lib.hid X.out.newM
    generalize wn.heap.size = x at X ⊢
    generalize wn.alloc mcZO = wn at X ⊢
    have hS := X.out.g1
    refine two 1 5 (cc 1 (calls_cp (C1.out _ X.out.below)) ?_ (al 5 X.out.newM.g2 ?_ AllReadyH.nil))
    rintro v' wn ⟨qa, ca, dva, mva, ova, rfl, kA, kk⟩
    have CA := Lib.hid (kA.base X.out.below.size)
    have X := Lib.hid (X.out.next kk)
    refine ⟨X.out.g1, fun hS => ?_⟩
    clear kk kA
    simp only [puts]
    refine two 3 5 (cc 3 (calls_cp (C1.out _ X.out.below)) ?_ (al 5 X.out.newM.g2 ?_ AllReadyH.nil))
    rintro v' wn ⟨qb, cb, dvb, mvb, ovb, rfl, kB, kk⟩
    have CB := Lib.hid kB
    have HA := CA
    have HB3 := Lib.hid X.out.below.size
    have CA := Lib.hid (CA.out.next kk)
    have X := Lib.hid (X.out.next kk)
    refine ⟨X.out.g1, fun hS => ?_⟩
    clear kk kB
    simp only [puts]
    refine ho 5 X.out.newM.g2 ?_
    have X := Lib.hid X.out.newM
    have CA := Lib.hid (CA.out.next (below1 wn mcZO))
    have CB := Lib.hid (CB.out.next (below1 wn mcZO))
    generalize wn.heap.size = y at X ⊢
    generalize wn.alloc mcZO = wn at X CA CB ⊢
    have hS := X.out.g2
    rotate_left
    have X := Lib.hid X.out.newM
    have CA := Lib.hid (CA.out.next (below1 wn mcZO))
    generalize wn.heap.size = y at X ⊢
    generalize wn.alloc mcZO = wn at X CA ⊢
    have hS := X.out.g2
    refine hc 3 (calls_cp (C1.out _ X.out.below)) ?_
    rintro v' wn ⟨qb, cb, dvb, mvb, ovb, rfl, kB, kk⟩
    have CB := Lib.hid kB
    have HA := CA
    have HB3 := Lib.hid X.out.below.size
    have CA := Lib.hid (CA.out.next kk)
    have X := Lib.hid (X.out.next kk)
    refine ⟨X.out.g2, fun hS => ?_⟩
    clear kk kB
    simp only [puts]
    rotate_left
    have X := Lib.hid X.out.newM
    generalize wn.heap.size = y at X ⊢
    generalize wn.alloc mcZO = wn at X ⊢
    have hS := X.out.g2
    refine hc 1 (calls_cp (C1.out _ X.out.below)) ?_
    rintro v' wn ⟨qa, ca, dva, mva, ova, rfl, kA, kk⟩
    have CA := Lib.hid (kA.base X.out.below.size)
    have X := Lib.hid (X.out.next kk)
    refine ⟨X.out.g2, fun hS => ?_⟩
    clear kk kA
    simp only [puts]
    refine hc 3 (calls_cp (C1.out _ X.out.below)) ?_
    rintro v' wn ⟨qb, cb, dvb, mvb, ovb, rfl, kB, kk⟩
    have CB := Lib.hid kB
    have HA := CA
    have HB3 := Lib.hid X.out.below.size
    have CA := Lib.hid (CA.out.next kk)
    have X := Lib.hid (X.out.next kk)
    refine ⟨X.out.g2, fun hS => ?_⟩
    clear kk kB
    simp only [puts]
    rotate_left
    have X := Lib.hid X.out.newM
    generalize wn.heap.size = y at X ⊢
    generalize wn.alloc mcZO = wn at X ⊢
    have hS := X.out.g1
    refine two 1 4 (cc 1 (calls_cp (C1.out _ X.out.below)) ?_ (al 4 X.out.newM.g2 ?_ AllReadyH.nil))
    rintro v' wn ⟨qa, ca, dva, mva, ova, rfl, kA, kk⟩
    have CA := Lib.hid (kA.base X.out.below.size)
    have X := Lib.hid (X.out.next kk)
    refine ⟨X.out.g1, fun hS => ?_⟩
    clear kk kA
    simp only [puts]
    refine two 3 4 (cc 3 (calls_cp (C1.out _ X.out.below)) ?_ (al 4 X.out.newM.g2 ?_ AllReadyH.nil))
    rintro v' wn ⟨qb, cb, dvb, mvb, ovb, rfl, kB, kk⟩
    have CB := Lib.hid kB
    have HA := CA
    have HB3 := Lib.hid X.out.below.size
    have CA := Lib.hid (CA.out.next kk)
    have X := Lib.hid (X.out.next kk)
    refine ⟨X.out.g1, fun hS => ?_⟩
    clear kk kB
    simp only [puts]
    refine ho 4 X.out.newM.g2 ?_
    have X := Lib.hid X.out.newM
    have CA := Lib.hid (CA.out.next (below1 wn mcZO))
    have CB := Lib.hid (CB.out.next (below1 wn mcZO))
    generalize wn.heap.size = x at X ⊢
    generalize wn.alloc mcZO = wn at X CA CB ⊢
    have X := Lib.hid X.out.swap
    have hS := X.out.g2
    rotate_left
    have X := Lib.hid X.out.newM
    have CA := Lib.hid (CA.out.next (below1 wn mcZO))
    generalize wn.heap.size = x at X ⊢
    generalize wn.alloc mcZO = wn at X CA ⊢
    have X := Lib.hid X.out.swap
    have hS := X.out.g2
    refine hc 3 (calls_cp (C1.out _ X.out.below)) ?_
    rintro v' wn ⟨qb, cb, dvb, mvb, ovb, rfl, kB, kk⟩
    have CB := Lib.hid kB
    have HA := CA
    have HB3 := Lib.hid X.out.below.size
    have CA := Lib.hid (CA.out.next kk)
    have X := Lib.hid (X.out.next kk)
    refine ⟨X.out.g2, fun hS => ?_⟩
    clear kk kB
    simp only [puts]
    rotate_left
    have X := Lib.hid X.out.newM
    generalize wn.heap.size = x at X ⊢
    generalize wn.alloc mcZO = wn at X ⊢
    have X := Lib.hid X.out.swap
    have hS := X.out.g2
    refine hc 1 (calls_cp (C1.out _ X.out.below)) ?_
    rintro v' wn ⟨qa, ca, dva, mva, ova, rfl, kA, kk⟩
    have CA := Lib.hid (kA.base X.out.below.size)
    have X := Lib.hid (X.out.next kk)
    refine ⟨X.out.g2, fun hS => ?_⟩
    clear kk kA
    simp only [puts]
    refine hc 3 (calls_cp (C1.out _ X.out.below)) ?_
    rintro v' wn ⟨qb, cb, dvb, mvb, ovb, rfl, kB, kk⟩
    have CB := Lib.hid kB
    have HA := CA
    have HB3 := Lib.hid X.out.below.size
    have CA := Lib.hid (CA.out.next kk)
    have X := Lib.hid (X.out.next kk)
    refine ⟨X.out.g2, fun hS => ?_⟩
    clear kk kB
    simp only [puts]
    rotate_left
    all_goals
      refine hs 6 (MBox.store (atM m p.F.length qa ca dva mva ova) CA.out.one X.out.g1 (by kernel_rfl)) fun wy hw => ?_
      have CA := Lib.hid (CA.out.over X.out.g1 (mcC (atM m p.F.length qa ca dva mva ova)))
      have CB := Lib.hid (CB.out.over X.out.g1 (mcC (atM m p.F.length qa ca dva mva ova)))
      rw [← hw] at CA CB
      have X := Lib.hid (X.out.p1 hw)
      refine ⟨X.out.g2, fun hS => ?_⟩
      clear hw
      refine hs 7 (MBox.store (atM m p.F.length qb cb dvb mvb ovb) CB.out.one X.out.g0 (by kernel_rfl)) fun wv hw => ?_
      have CA := Lib.hid (CA.out.over X.out.g0 (mcC (atM m p.F.length qb cb dvb mvb ovb)))
      have CB := Lib.hid (CB.out.over X.out.g0 (mcC (atM m p.F.length qb cb dvb mvb ovb)))
      rw [← hw] at CA CB
      have X := Lib.hid (X.out.p0 hw)
      refine ⟨X.out.g2, fun hS => ?_⟩
      clear hw
      refine wpAnyH_done (by kernel_rfl) ?_ _
      go_wp2_with fail
      go_meet
      exact ⟨x, y, qa, ca, dva, mva, ova, qb, cb, dvb, mvb, ovb, rfl, rfl, Lib.hid (two_mk X.out HA.out CA.out CB.out HB3.out)⟩
  case rest =>
    obtain ⟨x, y, qa, ca, dva, mva, ova, qb, cb, dvb, mvb, ovb, rfl, rfl, T⟩ := hcut
    have R := Lib.hid (two_pair T.out HP.out.1 HP.out.2)
    clear X T C1 HK HP
    go_wp2_with (fail)
    go_loopw [7] (fun i wr => ∃ j : Nat, j ≤ L.length ∧ j ≤ 30 ∧ i = .int .i64 j ∧ RowKit.Hid (∃ a b q, Pair W wr x y a b q (p.O.length + j))) (fun i _ => L.length - (intOf i).toNat)
    case atStart => exact ⟨0, Nat.zero_le _, Nat.zero_le _, rfl, Lib.hid ⟨_, _, _, R.out⟩⟩
    case round =>
      obtain ⟨j, hj, hj3, rfl, H⟩ := hrel
      clear R
      go_upto_region 5 with (fail)
      go_cut [39] from 32 to 78 (fun v wx => v = .bool (decide (j < L.length) && decide (j < 30)) ∧ wx = wr)
      case first =>
        by_cases h1 : j < L.length
        · by_cases h2 : j < 30
          · have g1 : decide ((j : Int) < 30) = true := decide_eq_true (by omega)
            have g2 : decide (j < 30) = true := decide_eq_true h2
            have g3 : decide (j < L.length) = true := decide_eq_true h1
            go_wp2_with fail
            go_meet
            exact ⟨by rw [g2, g3]; rfl, rfl⟩
          · have g1 : decide ((j : Int) < 30) = false := decide_eq_false (by omega)
            have g2 : decide (j < 30) = false := decide_eq_false h2
            have g3 : decide (j < L.length) = true := decide_eq_true h1
            go_wp2_with fail
            go_meet
            exact ⟨by rw [g2, g3]; rfl, rfl⟩
        · have g3 : decide (j < L.length) = false := decide_eq_false h1
          go_wp2_with fail
          go_meet
          exact ⟨by rw [g3]; rfl, rfl⟩
      case rest =>
        obtain ⟨rfl, rfl⟩ := hcut
        rcases Bool.eq_false_or_eq_true (decide (j < L.length) && decide (j < 30)) with hgo | hgo
        · rw [hgo]
          have hlt : j < L.length := by simp at hgo; omega
          have hl30 : j < 30 := by simp at hgo; omega
          clear hgo
          obtain ⟨a, b, q, hrs⟩ := H.out
          obtain ⟨g, off, rfl, hld⟩ := look_at HL.out.1 (by omega)
          have hU := HL.out.2 L[j] (List.getElem_mem ..)
          have hldw := hld j hlt
          generalize L[j] = lk at hU hldw
          obtain ⟨t, s, v, rd⟩ := lk
          have hO1 : (q.O.length + 1) * 32 ≤ 140737488355328 := by have := hrs.few; have := HO.out; omega
          have C5 := Lib.hid (look_tells x W.heap.size a q t s v rd _ hrs.ma hrs.below.size hrs.ok hO1 hU.1 hU.2)
          have LD1 := Lib.hid (hldw _ hrs.below)
          have HR := Lib.hid hrs
          have HU := Lib.hid (And.intro hU hO1)
          have LD := Lib.hid hldw
          clear hld hU hldw hrs H hO1
          go_upto_region 8 with (first | (with_reducible refine wpList_load_by rfl rfl LD1.out rfl ?_) | (go_at_call 13; (with_reducible refine C5.out.mono ?_); rintro e w5 ⟨rfl, kk⟩) | fail)
          obtain ⟨q1, c1, dv, mv, ov, hh⟩ := HR.out.half kk
          obtain ⟨e1, e2, e3⟩ := lk_same HR.out.like q t s v rd
          have g1 := lk_grown a q t s v rd HR.out.ok HU.out.1.2
          have g2 := lk_e a q t s v rd HR.out.ok HU.out.1.2 HR.out.e
          have C6 := told_tells y W.heap.size b q t s v rd w5 hh.mb hh.below.size (HR.out.like.ok HR.out.ok) (HR.out.like.plE HR.out.e) HU.out.2 HU.out.1.1 HU.out.1.2
          rw [e1, e3] at C6
          have C6 := Lib.hid C6
          generalize lkM a q t s v rd = R at hh g1 g2 e2 C6
          generalize lkV a q t s v rd = V at C6 ⊢
          obtain ⟨r, q'⟩ := R
          obtain ⟨vn, vg⟩ := V
          have HH := Lib.hid hh
          have HG := Lib.hid (And.intro e2 (And.intro g1 g2))
          have LD2 := Lib.hid (LD.out _ hh.below)
          clear kk C5 LD1 HR LD hh e1 e2 e3 g1 g2
          go_upto_region 9 with (first | (with_reducible refine wpList_load_by rfl rfl LD2.out rfl ?_) | (go_at_call 14; (with_reducible refine C6.out.mono ?_); rintro e w6 ⟨rfl, kk⟩) | fail)
          obtain ⟨a2, b2, hp2, hae⟩ := HH.out.pair kk HG.out.1 HG.out.2.1 HG.out.2.2
          have HR := Lib.hid hp2
          have CS := Lib.hid (fun w (h : Below w6.heap.size w6 w) => same_m a2 b2 q' w (hp2.next h).ma.rd (hp2.next h).mb.rd hp2.like)
          have CL := Lib.hid (fun w => lines_m a2 q' w hp2.ma.rd.fr.len)
          have CR := (fun w => rlines_m b2 q' w hp2.mb.rd.fr.len)
          rw [lines_same hp2.like q'] at CR
          have CR := Lib.hid CR
          generalize linesV a2 q' = lv at CL CR
          have hS0 : MBox w6 x a2 ∧ MBox w6 y b2 := ⟨hp2.ma.box, hp2.mb.box⟩
          clear kk hp2 hae HH HG LD2 C6
          have Z := Lib.hid (Mem.start w6)
          refine dr (fun w => MBox w x a2 ∧ MBox w y b2) fun wz hzz => ?_
          have Z := Lib.hid (Z.out.next hzz)
          have hS : MBox wz x a2 ∧ MBox wz y b2 := ⟨hS0.1.next hzz, hS0.2.next hzz⟩
          have HS0 := Lib.hid hS0
          clear hzz hS0
          refine tk 0 hS ?_
          refine tk 1 hS ?_
          refine tk 2 hS ?_
          refine tk 3 hS ?_
          refine tk 4 hS ?_
          refine tk 5 hS ?_
          refine tk 6 hS ?_
          refine tk 7 hS ?_
          refine tk 8 hS ?_
          refine tl 9 hS (fun w hw => MBox.load hw.1) ?_
          refine tl 10 hS (fun w hw => MBox.load hw.2) ?_
          refine hc 11 (calls_told (CS.out _ Z.out.below)) ?_
          rintro v' wb ⟨rfl, kk⟩
          have Z := Lib.hid (Z.out.next kk)
          refine ⟨⟨HS0.out.1.next Z.out.below, HS0.out.2.next Z.out.below⟩, fun hS => ?_⟩
          clear kk
          simp only [puts]
          refine tk 12 hS ?_
          refine tk 13 hS ?_
          refine tk 14 hS ?_
          refine tl 15 hS (fun w hw => MBox.load hw.1) ?_
          refine tl 17 hS (fun w hw => MBox.load hw.2) ?_
          refine hc 16 (calls_told (CL.out _)) ?_
          rintro v' wb ⟨rfl, kk⟩
          have Z := Lib.hid (Z.out.next kk)
          refine ⟨⟨HS0.out.1.next Z.out.below, HS0.out.2.next Z.out.below⟩, fun hS => ?_⟩
          clear kk
          simp only [puts]
          refine hc 18 (calls_told (CR.out _)) ?_
          rintro v' wb ⟨rfl, kk⟩
          have Z := Lib.hid (Z.out.next kk)
          refine ⟨⟨HS0.out.1.next Z.out.below, HS0.out.2.next Z.out.below⟩, fun hS => ?_⟩
          clear kk
          simp only [puts]
          refine tk 19 hS ?_
          refine tk 20 hS ?_
          refine wpAnyH_done (by kernel_rfl) ?_ _
          clear CS CL CR hS
          go_wp2_with fail
          exact ⟨⟨j + 1, by omega, by omega, by go_num, Lib.hid ⟨a2, b2, q', HR.out.next Z.out.below⟩⟩, by simp [intOf]; omega⟩
        · rw [hgo]
          clear hgo
          obtain ⟨a, b, q, hrs⟩ := H.out
          have HB := Lib.hid hrs.below
          clear hrs H
          go_wp2_with fail
          go_ret
          exact ⟨rfl, HB.out⟩

end Go.Proofs.Ytnedhjaphfjdmaa
