/- BusNowhere: the walk. -/
import Derived.Test.YtnedhjaphfjdmaaBX
namespace Go.Proofs.Ytnedhjaphfjdmaa
open Go.RowKit Go.Deep Go.Joins
noncomputable abbrev mcZO : Obj := .cells Try.zeroCells42 42
theorem Mem.newM {W w : World} {l : List (Nat × Array Value × Nat)} {r : List (Nat × Value × Nat × List Value)} (h : Mem W w l r) : Mem W (w.alloc mcZO) ((w.heap.size, Try.zeroCells42, 42) :: l) r := h.new _ 42 (by decide)
theorem calls_cp {f : FuncId} {args : Array Value} {w : World} {m : Mc} {p : Pt} (h : Calls Try.prog f args w fun e W' => ∃ q c dv mv ov, e = .returned (mcV { m with b := m.b.at q p.F.length c, dv := dv, mv := mv, ov := ov }) ∧ FT W' w.heap.size (.slice q p.F.length c) p.F ∧ OwnD W' w.heap.size dv p.D ∧ OwnM W' w.heap.size mv p.M ∧ W'.ownsRow w.heap.size 62 3 ov p.O.length (oC p.O) ∧ Below w.heap.size w W') :
    Calls Try.prog f args w fun e w' => ∃ u, e = .returned u ∧ (∃ q c dv mv ov, u = mcV (atM m p.F.length q c dv mv ov) ∧ CP w' w.heap.size q c dv mv ov p ∧ Below w.heap.size w w') :=
  h.mono fun _ _ ⟨q, c, dv, mv, ov, he, h1, h2, h3, h4, hb⟩ => ⟨_, he, q, c, dv, mv, ov, rfl, ⟨h1, h2, h3, h4⟩, hb⟩
theorem CP.one {w : World} {N : Nat} {q : Option Addr} {c : Nat} {dv mv ov : Value} {p : Pt} {m : Mc} (h : CP w N q c dv mv ov p) : Mc1 (atM m p.F.length q c dv mv ov) := ⟨one_t h.d, one_t h.mm, one_t h.o⟩
/-- Two copies in two variables. -/
structure Two (W w : World) (m : Mc) (p : Pt) (x y : Nat) (qa : Option Addr) (ca : Nat) (dva mva ova : Value) (qb : Option Addr) (cb : Nat) (dvb mvb ovb : Value) : Prop where
  a : MS w W.heap.size x (atM m p.F.length qa ca dva mva ova) p
  b : MS w W.heap.size y (atM m p.F.length qb cb dvb mvb ovb) p
  r : MBox w W.heap.size m
  below : Below W.heap.size W w
  apart : ∀ k, Ow (atM m p.F.length qa ca dva mva ova) x k → ¬ Ow (atM m p.F.length qb cb dvb mvb ovb) y k
  ra : ¬ Ow (atM m p.F.length qa ca dva mva ova) x W.heap.size
  rb : ¬ Ow (atM m p.F.length qb cb dvb mvb ovb) y W.heap.size
theorem POk.at {m : Mc} {p : Pt} (h : POk m p) (n : Nat) (q : Option Addr) (c : Nat) (dv mv ov : Value) : POk (atM m n q c dv mv ov) p := ⟨⟨h.bd.addr, h.bd.nicA, h.bd.sector⟩, h.c, h.fz, h.fl, h.dl, h.ml⟩
theorem CP.not {w : World} {N : Nat} {q : Option Addr} {c : Nat} {dv mv ov : Value} {p : Pt} {m : Mc} (h : CP w N q c dv mv ov p) {z g : Nat} {cs : Array Value} (k : w.heap[g]? = some (.cells cs 42 (0, 0))) (hk : Ow (atM m p.F.length q c dv mv ov) z g) : g = z := by
  rcases hk with hk | hk | hk | hk | hk
  · exact hk
  · exact absurd hk.symm (not_at h.d k (by decide))
  · exact absurd hk.symm (not_at h.mm k (by decide))
  · exact absurd hk.symm (not_at h.o k (by decide))
  · have hb := h.fr.blk
    change some g = (Value.slice q p.F.length c).ownBlock at hk
    cases q with
    | none => cases hk
    | some a =>
      simp only [Value.ownBlock, Option.some.injEq] at hk
      obtain ⟨h1, cur, h2⟩ := hb a _ _ rfl
      rw [← hk, k] at h2
      simp at h2
theorem two_mk {W w w0 : World} {m : Mc} {p : Pt} {x y : Nat} {qa qb : Option Addr} {ca cb : Nat} {dva mva ova dvb mvb ovb : Value} (X : Mem W w [(y, mcC (atM m p.F.length qb cb dvb mvb ovb), 42), (x, mcC (atM m p.F.length qa ca dva mva ova), 42), (W.heap.size, mcC m, 42)] []) (HA : CP w0 W.heap.size qa ca dva mva ova p) (A : CP w W.heap.size qa ca dva mva ova p) (B : CP w w0.heap.size qb cb dvb mvb ovb p) (hB : W.heap.size ≤ w0.heap.size) : Two W w m p x y qa ca dva mva ova qb cb dvb mvb ovb := by
  have hn := X.nod
  simp only [List.map_cons, List.map_nil, List.nodup_cons, List.mem_cons, List.not_mem_nil, or_false, not_or] at hn
  obtain ⟨⟨n1, n2⟩, n3, _⟩ := hn
  refine ⟨A.ms (X.big _ (List.mem_cons_of_mem _ (List.mem_cons_self ..))) X.g1, (B.base hB).ms (X.big _ (List.mem_cons_self ..)) X.g0, X.g2, X.below, fun k h1 h2 => ?_, fun h => n3 (A.not X.g2 h).symm, fun h => n2 (B.not X.g2 h).symm⟩
  rcases HA.lt h1 with e | ⟨_, e⟩
  · subst e
    exact n1 (B.not X.g1 h2).symm
  · rcases B.lt h2 with e' | ⟨e', _⟩
    · subst e'
      exact n1 (A.not X.g0 h1)
    · omega
set_option maxRecDepth 100000 in
set_option maxHeartbeats 4000000 in
theorem nowhere_walk (m : Mc) (p : Pt) (t s v : Int) (W : World) (K : MR W m p) (ok : POk m p) (hO : (p.O.length + 1) * 32 ≤ 140737488355328) (ht : 0 ≤ t ∧ t ≤ 18446744073709551615) (hv : 0 ≤ v ∧ v ≤ 18446744073709551615) : Calls Try.prog 6 #[mcV m, .int .u64 t, .int .i64 s, .int .u64 v] W fun e W' => e = .returned (.bool true) ∧ Below W.heap.size W W' := by
  have C0 := Lib.hid awake_any
  have C1 := Lib.hid (fun W' (h : Below W.heap.size W W') => rmcopy_any m p W' (K.next h) ok.fl ok.dl ok.ml (by omega))
  have HK := Lib.hid K
  have HP := Lib.hid ok
  have HL := Lib.hid (And.intro hO (And.intro ht hv))
  clear K ok hO ht hv
  go_enter Try.func6, Try.ntmps6
  have X := Lib.hid ((Mem.start W).new (mcC m) 42 (by decide))
  go_upto_region 3 with (first | (go_at_call 7; (with_reducible refine (C0.out _).mono ?_); rintro e wb ⟨rfl, kk⟩; have X := Lib.hid (X.out.next kk); clear kk) | fail)
  go_cut [9, 10] (fun s9 s10 wx => ∃ x y qa ca dva mva ova qb cb dvb mvb ovb, s9 = .pointer (some ⟨x, 0, none⟩) ∧ s10 = .pointer (some ⟨y, 0, none⟩) ∧ RowKit.Hid (Two W wx m p x y qa ca dva mva ova qb cb dvb mvb ovb))
  case first =>
    refine dr (fun w => MBox w W.heap.size m) fun wn hzz => ?_
    have X := Lib.hid (X.out.next hzz)
    clear hzz
    have hS := X.out.g0
    refine tl 0 hS (fun w hw => MBox.load hw) ?_
    refine tl 2 hS (fun w hw => MBox.load hw) ?_
    refine three 1 4 5 (cc 1 (calls_cp (C1.out _ X.out.below)) ?_ (al 4 X.out.newM.g1 ?_ (al 5 X.out.newM.g1 ?_ AllReadyH.nil)))
    rintro v' wn ⟨qa, ca, dva, mva, ova, rfl, kA, kk⟩
    have CA := Lib.hid (kA.base X.out.below.size)
    have X := Lib.hid (X.out.next kk)
    refine ⟨X.out.g0, fun hS => ?_⟩
    clear kk kA
    simp only [puts]
    refine three 3 4 5 (cc 3 (calls_cp (C1.out _ X.out.below)) ?_ (al 4 X.out.newM.g1 ?_ (al 5 X.out.newM.g1 ?_ AllReadyH.nil)))
    rintro v' wn ⟨qb, cb, dvb, mvb, ovb, rfl, kB, kk⟩
    have CB := Lib.hid kB
    have HA := CA
    have HB3 := Lib.hid X.out.below.size
    have CA := Lib.hid (CA.out.next kk)
    have X := Lib.hid (X.out.next kk)
    refine ⟨X.out.g0, fun hS => ?_⟩
    clear kk kB
    simp only [puts]
    refine two 4 5 (al 4 X.out.newM.g1 ?_ (al 5 X.out.newM.g1 ?_ AllReadyH.nil))
    have X := Lib.hid X.out.newM
    have CA := Lib.hid (CA.out.next (below1 wn mcZO))
    have CB := Lib.hid (CB.out.next (below1 wn mcZO))
    generalize wn.heap.size = x at X ⊢
    generalize wn.alloc mcZO = wn at X CA CB ⊢
    have hS := X.out.g1
    refine ho 5 X.out.newM.g2 ?_
    have X := Lib.hid X.out.newM
    have CA := Lib.hid (CA.out.next (below1 wn mcZO))
    have CB := Lib.hid (CB.out.next (below1 wn mcZO))
    generalize wn.heap.size = y at X ⊢
    generalize wn.alloc mcZO = wn at X CA CB ⊢
    have hS := X.out.g2
    rotate_left
    have X := Lib.hid X.out.newM
    have CA := Lib.hid (CA.out.next (below1 wn mcZO))
    have CB := Lib.hid (CB.out.next (below1 wn mcZO))
    generalize wn.heap.size = y at X ⊢
    generalize wn.alloc mcZO = wn at X CA CB ⊢
    have hS := X.out.g1
    refine ho 4 X.out.newM.g2 ?_
    have X := Lib.hid X.out.newM
    have CA := Lib.hid (CA.out.next (below1 wn mcZO))
    have CB := Lib.hid (CB.out.next (below1 wn mcZO))
    generalize wn.heap.size = x at X ⊢
    generalize wn.alloc mcZO = wn at X CA CB ⊢
    have X := Lib.hid X.out.swap
    have hS := X.out.g2
    rotate_left
    have X := Lib.hid X.out.newM
    have CA := Lib.hid (CA.out.next (below1 wn mcZO))
    generalize wn.heap.size = x at X ⊢
    generalize wn.alloc mcZO = wn at X CA ⊢
    have hS := X.out.g1
    refine two 3 5 (cc 3 (calls_cp (C1.out _ X.out.below)) ?_ (al 5 X.out.newM.g2 ?_ AllReadyH.nil))
    rintro v' wn ⟨qb, cb, dvb, mvb, ovb, rfl, kB, kk⟩
    have CB := Lib.hid kB
    have HA := CA
    have HB3 := Lib.hid X.out.below.size
    have CA := Lib.hid (CA.out.next kk)
    have X := Lib.hid (X.out.next kk)
    refine ⟨X.out.g1, fun hS => ?_⟩
    clear kk kB
    simp only [puts]
    refine ho 5 X.out.newM.g2 ?_
    have X := Lib.hid X.out.newM
    have CA := Lib.hid (CA.out.next (below1 wn mcZO))
    have CB := Lib.hid (CB.out.next (below1 wn mcZO))
    generalize wn.heap.size = y at X ⊢
    generalize wn.alloc mcZO = wn at X CA CB ⊢
    have hS := X.out.g2
    rotate_left
    have X := Lib.hid X.out.newM
    have CA := Lib.hid (CA.out.next (below1 wn mcZO))
    generalize wn.heap.size = y at X ⊢
    generalize wn.alloc mcZO = wn at X CA ⊢
    have hS := X.out.g2
    refine hc 3 (calls_cp (C1.out _ X.out.below)) ?_
    rintro v' wn ⟨qb, cb, dvb, mvb, ovb, rfl, kB, kk⟩
    have CB := Lib.hid kB
    have HA := CA
    have HB3 := Lib.hid X.out.below.size
    have CA := Lib.hid (CA.out.next kk)
    have X := Lib.hid (X.out.next kk)
    refine ⟨X.out.g2, fun hS => ?_⟩
    clear kk kB
    simp only [puts]
    rotate_left
    have X := Lib.hid X.out.newM
    have CA := Lib.hid (CA.out.next (below1 wn mcZO))
    generalize wn.heap.size = y at X ⊢
    generalize wn.alloc mcZO = wn at X CA ⊢
    have hS := X.out.g1
    refine two 3 4 (cc 3 (calls_cp (C1.out _ X.out.below)) ?_ (al 4 X.out.newM.g2 ?_ AllReadyH.nil))
    rintro v' wn ⟨qb, cb, dvb, mvb, ovb, rfl, kB, kk⟩
    have CB := Lib.hid kB
    have HA := CA
    have HB3 := Lib.hid X.out.below.size
    have CA := Lib.hid (CA.out.next kk)
    have X := Lib.hid (X.out.next kk)
    refine ⟨X.out.g1, fun hS => ?_⟩
    clear kk kB
    simp only [puts]
    refine ho 4 X.out.newM.g2 ?_
    have X := Lib.hid X.out.newM
    have CA := Lib.hid (CA.out.next (below1 wn mcZO))
    have CB := Lib.hid (CB.out.next (below1 wn mcZO))
    generalize wn.heap.size = x at X ⊢
    generalize wn.alloc mcZO = wn at X CA CB ⊢
    have X := Lib.hid X.out.swap
    have hS := X.out.g2
    rotate_left
    have X := Lib.hid X.out.newM
    have CA := Lib.hid (CA.out.next (below1 wn mcZO))
    generalize wn.heap.size = x at X ⊢
    generalize wn.alloc mcZO = wn at X CA ⊢
    have X := Lib.hid X.out.swap
    have hS := X.out.g2
    refine hc 3 (calls_cp (C1.out _ X.out.below)) ?_
    rintro v' wn ⟨qb, cb, dvb, mvb, ovb, rfl, kB, kk⟩
    have CB := Lib.hid kB
    have HA := CA
    have HB3 := Lib.hid X.out.below.size
    have CA := Lib.hid (CA.out.next kk)
    have X := Lib.hid (X.out.next kk)
    refine ⟨X.out.g2, fun hS => ?_⟩
    clear kk kB
    simp only [puts]
    rotate_left
    have X := Lib.hid X.out.newM
    generalize wn.heap.size = x at X ⊢
    generalize wn.alloc mcZO = wn at X ⊢
    have hS := X.out.g1
    refine two 1 5 (cc 1 (calls_cp (C1.out _ X.out.below)) ?_ (al 5 X.out.newM.g2 ?_ AllReadyH.nil))
    rintro v' wn ⟨qa, ca, dva, mva, ova, rfl, kA, kk⟩
    have CA := Lib.hid (kA.base X.out.below.size)
    have X := Lib.hid (X.out.next kk)
    refine ⟨X.out.g1, fun hS => ?_⟩
    clear kk kA
    simp only [puts]
    refine two 3 5 (cc 3 (calls_cp (C1.out _ X.out.below)) ?_ (al 5 X.out.newM.g2 ?_ AllReadyH.nil))
    rintro v' wn ⟨qb, cb, dvb, mvb, ovb, rfl, kB, kk⟩
    have CB := Lib.hid kB
    have HA := CA
    have HB3 := Lib.hid X.out.below.size
    have CA := Lib.hid (CA.out.next kk)
    have X := Lib.hid (X.out.next kk)
    refine ⟨X.out.g1, fun hS => ?_⟩
    clear kk kB
    simp only [puts]
    refine ho 5 X.out.newM.g2 ?_
    have X := Lib.hid X.out.newM
    have CA := Lib.hid (CA.out.next (below1 wn mcZO))
    have CB := Lib.hid (CB.out.next (below1 wn mcZO))
    generalize wn.heap.size = y at X ⊢
    generalize wn.alloc mcZO = wn at X CA CB ⊢
    have hS := X.out.g2
    rotate_left
    have X := Lib.hid X.out.newM
    have CA := Lib.hid (CA.out.next (below1 wn mcZO))
    generalize wn.heap.size = y at X ⊢
    generalize wn.alloc mcZO = wn at X CA ⊢
    have hS := X.out.g2
    refine hc 3 (calls_cp (C1.out _ X.out.below)) ?_
    rintro v' wn ⟨qb, cb, dvb, mvb, ovb, rfl, kB, kk⟩
    have CB := Lib.hid kB
    have HA := CA
    have HB3 := Lib.hid X.out.below.size
    have CA := Lib.hid (CA.out.next kk)
    have X := Lib.hid (X.out.next kk)
    refine ⟨X.out.g2, fun hS => ?_⟩
    clear kk kB
    simp only [puts]
    rotate_left
    have X := Lib.hid X.out.newM
    generalize wn.heap.size = y at X ⊢
    generalize wn.alloc mcZO = wn at X ⊢
    have hS := X.out.g2
    refine hc 1 (calls_cp (C1.out _ X.out.below)) ?_
    rintro v' wn ⟨qa, ca, dva, mva, ova, rfl, kA, kk⟩
    have CA := Lib.hid (kA.base X.out.below.size)
    have X := Lib.hid (X.out.next kk)
    refine ⟨X.out.g2, fun hS => ?_⟩
    clear kk kA
    simp only [puts]
    refine hc 3 (calls_cp (C1.out _ X.out.below)) ?_
    rintro v' wn ⟨qb, cb, dvb, mvb, ovb, rfl, kB, kk⟩
    have CB := Lib.hid kB
    have HA := CA
    have HB3 := Lib.hid X.out.below.size
    have CA := Lib.hid (CA.out.next kk)
    have X := Lib.hid (X.out.next kk)
    refine ⟨X.out.g2, fun hS => ?_⟩
    clear kk kB
    simp only [puts]
    rotate_left
    have X := Lib.hid X.out.newM
    generalize wn.heap.size = y at X ⊢
    generalize wn.alloc mcZO = wn at X ⊢
    have hS := X.out.g1
    refine two 1 4 (cc 1 (calls_cp (C1.out _ X.out.below)) ?_ (al 4 X.out.newM.g2 ?_ AllReadyH.nil))
    rintro v' wn ⟨qa, ca, dva, mva, ova, rfl, kA, kk⟩
    have CA := Lib.hid (kA.base X.out.below.size)
    have X := Lib.hid (X.out.next kk)
    refine ⟨X.out.g1, fun hS => ?_⟩
    clear kk kA
    simp only [puts]
    refine two 3 4 (cc 3 (calls_cp (C1.out _ X.out.below)) ?_ (al 4 X.out.newM.g2 ?_ AllReadyH.nil))
    rintro v' wn ⟨qb, cb, dvb, mvb, ovb, rfl, kB, kk⟩
    have CB := Lib.hid kB
    have HA := CA
    have HB3 := Lib.hid X.out.below.size
    have CA := Lib.hid (CA.out.next kk)
    have X := Lib.hid (X.out.next kk)
    refine ⟨X.out.g1, fun hS => ?_⟩
    clear kk kB
    simp only [puts]
    refine ho 4 X.out.newM.g2 ?_
    have X := Lib.hid X.out.newM
    have CA := Lib.hid (CA.out.next (below1 wn mcZO))
    have CB := Lib.hid (CB.out.next (below1 wn mcZO))
    generalize wn.heap.size = x at X ⊢
    generalize wn.alloc mcZO = wn at X CA CB ⊢
    have X := Lib.hid X.out.swap
    have hS := X.out.g2
    rotate_left
    have X := Lib.hid X.out.newM
    have CA := Lib.hid (CA.out.next (below1 wn mcZO))
    generalize wn.heap.size = x at X ⊢
    generalize wn.alloc mcZO = wn at X CA ⊢
    have X := Lib.hid X.out.swap
    have hS := X.out.g2
    refine hc 3 (calls_cp (C1.out _ X.out.below)) ?_
    rintro v' wn ⟨qb, cb, dvb, mvb, ovb, rfl, kB, kk⟩
    have CB := Lib.hid kB
    have HA := CA
    have HB3 := Lib.hid X.out.below.size
    have CA := Lib.hid (CA.out.next kk)
    have X := Lib.hid (X.out.next kk)
    refine ⟨X.out.g2, fun hS => ?_⟩
    clear kk kB
    simp only [puts]
    rotate_left
    have X := Lib.hid X.out.newM
    generalize wn.heap.size = x at X ⊢
    generalize wn.alloc mcZO = wn at X ⊢
    have X := Lib.hid X.out.swap
    have hS := X.out.g2
    refine hc 1 (calls_cp (C1.out _ X.out.below)) ?_
    rintro v' wn ⟨qa, ca, dva, mva, ova, rfl, kA, kk⟩
    have CA := Lib.hid (kA.base X.out.below.size)
    have X := Lib.hid (X.out.next kk)
    refine ⟨X.out.g2, fun hS => ?_⟩
    clear kk kA
    simp only [puts]
    refine hc 3 (calls_cp (C1.out _ X.out.below)) ?_
    rintro v' wn ⟨qb, cb, dvb, mvb, ovb, rfl, kB, kk⟩
    have CB := Lib.hid kB
    have HA := CA
    have HB3 := Lib.hid X.out.below.size
    have CA := Lib.hid (CA.out.next kk)
    have X := Lib.hid (X.out.next kk)
    refine ⟨X.out.g2, fun hS => ?_⟩
    clear kk kB
    simp only [puts]
    rotate_left
    all_goals
      refine hs 6 (MBox.store (atM m p.F.length qa ca dva mva ova) CA.out.one X.out.g1 (by kernel_rfl)) fun wy hw => ?_
      have CA := Lib.hid (CA.out.over X.out.g1 (mcC (atM m p.F.length qa ca dva mva ova)))
      have CB := Lib.hid (CB.out.over X.out.g1 (mcC (atM m p.F.length qa ca dva mva ova)))
      rw [← hw] at CA CB
      have X := Lib.hid (X.out.p1 hw)
      refine ⟨X.out.g2, fun hS => ?_⟩
      clear hw
      refine hs 7 (MBox.store (atM m p.F.length qb cb dvb mvb ovb) CB.out.one X.out.g0 (by kernel_rfl)) fun wv hw => ?_
      have CA := Lib.hid (CA.out.over X.out.g0 (mcC (atM m p.F.length qb cb dvb mvb ovb)))
      have CB := Lib.hid (CB.out.over X.out.g0 (mcC (atM m p.F.length qb cb dvb mvb ovb)))
      rw [← hw] at CA CB
      have X := Lib.hid (X.out.p0 hw)
      refine ⟨X.out.g2, fun hS => ?_⟩
      clear hw
      refine wpAnyH_done (by kernel_rfl) ?_ _
      go_wp2_with fail
      go_meet
      exact ⟨x, y, qa, ca, dva, mva, ova, qb, cb, dvb, mvb, ovb, rfl, rfl, Lib.hid (two_mk X.out HA.out CA.out CB.out HB3.out)⟩
  case rest =>
    obtain ⟨x, y, qa, ca, dva, mva, ova, qb, cb, dvb, mvb, ovb, rfl, rfl, T⟩ := hcut
    have C4 := ld_any x W.heap.size (atM m p.F.length qa ca dva mva ova) p t s wc T.out.a T.out.below.size (HP.out.at _ _ _ _ _ _) HL.out.2.1.1 HL.out.2.1.2
    have HX := ldM_no (atM m p.F.length qa ca dva mva ova) p t s
    generalize ldM (atM m p.F.length qa ca dva mva ova) p t s = R at C4 HX
    obtain ⟨mr, pr, n, g⟩ := R
    have C4 := Lib.hid C4
    have HX := Lib.hid HX
    go_upto_region 5 with (first | (go_at_call 17; (with_reducible refine C4.out.mono ?_); rintro e w1 ⟨rfl, q1, c1, dv1, mv1, ov1, M1, T1, O1⟩) | fail)
    have KB1 := Lib.hid (T.out.b.keep (fun k hk => T1.block k (T.out.b.lt hk).2 (fun h => T.out.apart k h hk)))
    have R1 := Lib.hid (show MBox w1 W.heap.size m from (T1.block W.heap.size T.out.r.lt T.out.ra).trans T.out.r)
    have B1 := Lib.hid (Touch.below T.out.below T1 (fun k hk => (T.out.a.lt hk).1) T.out.below.size)
    have M1 := Lib.hid M1
    have O1 := Lib.hid O1
    clear T1 C4
    have C5 := st_any y W.heap.size (atM m p.F.length qb cb dvb mvb ovb) p t s v w1 KB1.out B1.out.size (HP.out.at _ _ _ _ _ _) HL.out.1 HL.out.2.1 HL.out.2.2
    have HY := stM_no (atM m p.F.length qb cb dvb mvb ovb) p t s v
    generalize stM (atM m p.F.length qb cb dvb mvb ovb) p t s v = R at C5 HY
    obtain ⟨mt, pt, f⟩ := R
    have C5 := Lib.hid C5
    have HY := Lib.hid HY
    go_upto_region 6 with (first | (go_at_call 15; (with_reducible refine C5.out.mono ?_); rintro e w2 ⟨rfl, q2, c2, dv2, mv2, ov2, M2, T2, O2⟩) | fail)
    have KA2 := Lib.hid (M1.out.keep (fun k hk => T2.block k (M1.out.lt hk).2 (fun h => by
      rcases O1.out k hk with h' | h'
      · exact T.out.apart k h' h
      · exact absurd (T.out.b.lt h).2 (by omega))))
    have R2 := Lib.hid (show MBox w2 W.heap.size m from (T2.block W.heap.size R1.out.lt T.out.rb).trans R1.out)
    have B2 := Lib.hid (Touch.below B1.out T2 (fun k hk => (KB1.out.lt hk).1) B1.out.size)
    have KB2 := Lib.hid M2
    have X := Lib.hid (Mem.start w2)
    have LR := Lib.hid (fun w (h : Below w2.heap.size w2 w) => (R2.out.next h).load)
    clear M1 O1 T2 M2 O2 C5 KB1 R1 B1 C1 C0
    rcases HX.out with hx | hx <;> rcases HY.out with hy | hy <;> (try simp only [Prod.mk.injEq] at hx) <;> (try simp only [Prod.mk.injEq] at hy)
    · obtain rfl : g = true := hx
      obtain rfl : f = true := hy
      go_wp2_with (first | fail)
      go_ret
      exact ⟨rfl, below_then B2.out X.out.below⟩
    · obtain rfl : g = true := hx
      obtain ⟨h1, h2, rfl⟩ := hy
      have h2 := h2.symm
      subst h1
      subst h2
      have CB := Lib.hid (fun w (h : Below w2.heap.size w2 w) => same_m _ m p w (KB2.out.next h).rd (HK.out.next (below_then B2.out h)) ⟨rfl, rfl, rfl, rfl, rfl⟩)
      have LB := Lib.hid (fun w (h : Below w2.heap.size w2 w) => (KB2.out.next h).box.load)
      go_wp2_with (first | ((with_reducible show wpList _ _ _ (⟨some 43, Op.load 42 _, _, _, _, _⟩ :: _) _ _); refine wpList_load_wanted (by kernel_rfl) rfl (LB.out _ X.out.below) rfl ?_; simp only [Act.put, List.setIfInBounds_toArray, List.set_cons_zero, List.set_cons_succ]) | ((with_reducible show wpList _ _ _ (⟨some 44, Op.load 42 _, _, _, _, _⟩ :: _) _ _); refine wpList_load_wanted (by kernel_rfl) rfl (LR.out _ X.out.below) rfl ?_; simp only [Act.put, List.setIfInBounds_toArray, List.set_cons_zero, List.set_cons_succ]) | (go_at_call 10; (with_reducible refine (CB.out _ X.out.below).mono ?_); rintro e wq ⟨rfl, kk⟩; have X := Lib.hid (X.out.next kk); clear kk) | fail)
      go_ret
      exact ⟨rfl, below_then B2.out X.out.below⟩
    · obtain ⟨h1, h2, rfl, rfl⟩ := hx
      have h2 := h2.symm
      subst h1
      subst h2
      obtain rfl : f = true := hy
      have CA := Lib.hid (fun w (h : Below w2.heap.size w2 w) => same_m _ m p w (KA2.out.next h).rd (HK.out.next (below_then B2.out h)) ⟨rfl, rfl, rfl, rfl, rfl⟩)
      have LA := Lib.hid (fun w (h : Below w2.heap.size w2 w) => (KA2.out.next h).box.load)
      go_wp2_with (first | ((with_reducible show wpList _ _ _ (⟨some 35, Op.load 42 _, _, _, _, _⟩ :: _) _ _); refine wpList_load_wanted (by kernel_rfl) rfl (LA.out _ X.out.below) rfl ?_; simp only [Act.put, List.setIfInBounds_toArray, List.set_cons_zero, List.set_cons_succ]) | ((with_reducible show wpList _ _ _ (⟨some 36, Op.load 42 _, _, _, _, _⟩ :: _) _ _); refine wpList_load_wanted (by kernel_rfl) rfl (LR.out _ X.out.below) rfl ?_; simp only [Act.put, List.setIfInBounds_toArray, List.set_cons_zero, List.set_cons_succ]) | (go_at_call 10; (with_reducible refine (CA.out _ X.out.below).mono ?_); rintro e wq ⟨rfl, kk⟩; have X := Lib.hid (X.out.next kk); clear kk) | fail)
      go_ret
      exact ⟨rfl, below_then B2.out X.out.below⟩
    · obtain ⟨h1, h2, rfl, rfl⟩ := hx
      have h2 := h2.symm
      subst h1
      subst h2
      obtain ⟨h1, h2, rfl⟩ := hy
      have h2 := h2.symm
      subst h1
      subst h2
      have CA := Lib.hid (fun w (h : Below w2.heap.size w2 w) => same_m _ m p w (KA2.out.next h).rd (HK.out.next (below_then B2.out h)) ⟨rfl, rfl, rfl, rfl, rfl⟩)
      have LA := Lib.hid (fun w (h : Below w2.heap.size w2 w) => (KA2.out.next h).box.load)
      have CB := Lib.hid (fun w (h : Below w2.heap.size w2 w) => same_m _ m p w (KB2.out.next h).rd (HK.out.next (below_then B2.out h)) ⟨rfl, rfl, rfl, rfl, rfl⟩)
      have LB := Lib.hid (fun w (h : Below w2.heap.size w2 w) => (KB2.out.next h).box.load)
      go_wp2_with (first | ((with_reducible show wpList _ _ _ (⟨some 35, Op.load 42 _, _, _, _, _⟩ :: _) _ _); refine wpList_load_wanted (by kernel_rfl) rfl (LA.out _ X.out.below) rfl ?_; simp only [Act.put, List.setIfInBounds_toArray, List.set_cons_zero, List.set_cons_succ]) | ((with_reducible show wpList _ _ _ (⟨some 36, Op.load 42 _, _, _, _, _⟩ :: _) _ _); refine wpList_load_wanted (by kernel_rfl) rfl (LR.out _ X.out.below) rfl ?_; simp only [Act.put, List.setIfInBounds_toArray, List.set_cons_zero, List.set_cons_succ]) | (go_at_call 10; (with_reducible refine (CA.out _ X.out.below).mono ?_); rintro e wq ⟨rfl, kk⟩; have X := Lib.hid (X.out.next kk); clear kk) | ((with_reducible show wpList _ _ _ (⟨some 43, Op.load 42 _, _, _, _, _⟩ :: _) _ _); refine wpList_load_wanted (by kernel_rfl) rfl (LB.out _ X.out.below) rfl ?_; simp only [Act.put, List.setIfInBounds_toArray, List.set_cons_zero, List.set_cons_succ]) | ((with_reducible show wpList _ _ _ (⟨some 44, Op.load 42 _, _, _, _, _⟩ :: _) _ _); refine wpList_load_wanted (by kernel_rfl) rfl (LR.out _ X.out.below) rfl ?_; simp only [Act.put, List.setIfInBounds_toArray, List.set_cons_zero, List.set_cons_succ]) | (go_at_call 10; (with_reducible refine (CB.out _ X.out.below).mono ?_); rintro e wq ⟨rfl, kk⟩; have X := Lib.hid (X.out.next kk); clear kk) | fail)
      go_ret
      exact ⟨rfl, below_then B2.out X.out.below⟩

end Go.Proofs.Ytnedhjaphfjdmaa
