/- RamPuts: the walk. -/
import Derived.Test.YtocphogddjcblaaBC
namespace Go.Proofs.Ytocphogddjcblaa
open Go.RowKit Go.Deep Go.Joins
/-- Memory in two variables, each the call's own, and the arguments' boxes. -/
structure St (w w0 u : World) (z7 z8 N : Nat) (a b c d : Value) (E : Int) (Da : List UInt8) (Ma : List Int) (Dc : List UInt8) (Mc : List Int) (dv mv : Value) (t size x : Int) (s : ByteArray) : Prop where
  base : Base w u dv mv E t size x s
  v7 : RamVar u z7 a b E
  v8 : RamVar u z8 c d E
  ne : z7 ≠ z8
  da : OwnD u w0.heap.size a Da
  ma : OwnM u w0.heap.size b Ma
  db : OwnD u N c Dc
  mb : OwnM u N d Mc
  la : ∀ g, a.ownBlock = some g → g < N
  lb : ∀ g, b.ownBlock = some g → g < N
  hN : w0.heap.size ≤ N
  h0 : w.heap.size + 1 < w0.heap.size
theorem St.below {w w0 u u' : World} {z7 z8 N : Nat} {a b c d : Value} {E : Int} {Da : List UInt8} {Ma : List Int} {Dc : List UInt8} {Mc : List Int} {dv mv : Value} {t size x : Int} {s : ByteArray} (h : St w w0 u z7 z8 N a b c d E Da Ma Dc Mc dv mv t size x s) (hb : Below u.heap.size u u') :
    St w w0 u' z7 z8 N a b c d E Da Ma Dc Mc dv mv t size x s :=
  ⟨h.base.below hb, h.v7.below hb, h.v8.below hb, h.ne, h.da.below hb, h.ma.below hb, h.db.below hb, h.mb.below hb, h.la, h.lb, h.hN, h.h0⟩
theorem St.cells {w w0 u : World} {z7 z8 N : Nat} {a b c d : Value} {E : Int} {Da : List UInt8} {Ma : List Int} {Dc : List UInt8} {Mc : List Int} {dv mv : Value} {t size x : Int} {s : ByteArray} (h : St w w0 u z7 z8 N a b c d E Da Ma Dc Mc dv mv t size x s) :
    u.cell? ⟨w.heap.size + 1, 0, none⟩ = some (.int .u64 t) ∧ u.cell? ⟨w.heap.size + 1, 3, none⟩ = some (.string s) ∧ u.cell? ⟨z7, 0, none⟩ = some a ∧ u.cell? ⟨z7, 1, none⟩ = some b ∧ u.cell? ⟨z7, 2, none⟩ = some (.int .u64 E) ∧
    u.cell? ⟨z8, 0, none⟩ = some c ∧ u.cell? ⟨z8, 1, none⟩ = some d ∧ u.cell? ⟨z8, 2, none⟩ = some (.int .u64 E) := by
  obtain ⟨_, _, _, a3, _, _, a6⟩ := h.base.cells
  obtain ⟨c0, c1, c2⟩ := h.v7.cells
  obtain ⟨d0, d1, d2⟩ := h.v8.cells
  exact ⟨a3, a6, c0, c1, c2, d0, d1, d2⟩
theorem St.put {w w0 u : World} {z7 z8 N : Nat} {a b c d : Value} {E : Int} {Da : List UInt8} {Ma : List Int} {Dc : List UInt8} {Mc : List Int} {dv mv : Value} {t size x : Int} {s : ByteArray} (h : St w w0 u z7 z8 N a b c d E Da Ma Dc Mc dv mv t size x s) (ht0 : 0 ≤ t) (ht1 : t ≤ 18446744073709551615) (hs : s.size ≤ 9223372036854775807) :
    Calls Try.prog 22 #[.pointer (some ⟨z7, 0, none⟩), .int .u64 t, .string s] u fun e u' => e = .returned (.bool (putB Da.length t s)) ∧ St w w0 u' z7 z8 N a b c d E (putD Da t s) (putM Da.length Ma E t s) Dc Mc dv mv t size x s := by
  refine (put_any z7 w0.heap.size a b E t Da Ma s u h.v7 h.da h.ma ht0 ht1 hs).mono ?_
  rintro e u' ⟨rfl, hp⟩
  have hS1 : ∀ k, PutS a b k → w0.heap.size ≤ k ∧ k < N := fun k hk => by
    rcases hk with hk | hk
    · exact ⟨(owns_lt h.da hk.symm).1, h.la k hk.symm⟩
    · exact ⟨(owns_lt h.ma hk.symm).1, h.lb k hk.symm⟩
  have h0 := h.h0
  have n8 : ¬ PutS a b z8 := fun hk => by
    rcases hk with hk | hk
    · exact not_at h.da h.v8 (by decide) hk.symm
    · exact not_at h.ma h.v8 (by decide) hk.symm
  exact ⟨rfl, h.base.touch hp.t (fun hk => by have := hS1 _ hk; omega) (fun hk => by have := hS1 _ hk; omega) (fun k hk => by have := hS1 _ hk; omega), hp.var, h.v8.touch hp.t n8, h.ne, hp.d, hp.m,
    owns_touch h.db hp.t (fun g hg hk => by have := hS1 _ hk; have := (owns_lt h.db hg).1; omega), owns_touch h.mb hp.t (fun g hg hk => by have := hS1 _ hk; have := (owns_lt h.mb hg).1; omega), h.la, h.lb, h.hN, h.h0⟩
theorem St.rput {w w0 u : World} {z7 z8 N : Nat} {a b c d : Value} {E : Int} {Da : List UInt8} {Ma : List Int} {Dc : List UInt8} {Mc : List Int} {dv mv : Value} {t size x : Int} {s : ByteArray} (h : St w w0 u z7 z8 N a b c d E Da Ma Dc Mc dv mv t size x s) (ht0 : 0 ≤ t) (ht1 : t ≤ 18446744073709551615) (hs : s.size ≤ 9223372036854775807) :
    Calls Try.prog 23 #[.pointer (some ⟨z8, 0, none⟩), .int .u64 t, .string s] u fun e u' => e = .returned (.bool (putB Dc.length t s)) ∧ St w w0 u' z7 z8 N a b c d E Da Ma (putD Dc t s) (putM Dc.length Mc E t s) dv mv t size x s := by
  refine (rput_any z8 N c d E t Dc Mc s u h.v8 h.db h.mb ht0 ht1 hs).mono ?_
  rintro e u' ⟨rfl, hp⟩
  have hN := h.hN
  have hS1 : ∀ k, PutS c d k → N ≤ k := fun k hk => by
    rcases hk with hk | hk
    · exact (owns_lt h.db hk.symm).1
    · exact (owns_lt h.mb hk.symm).1
  have h0 := h.h0
  have n7 : ¬ PutS c d z7 := fun hk => by
    rcases hk with hk | hk
    · exact not_at h.db h.v7 (by decide) hk.symm
    · exact not_at h.mb h.v7 (by decide) hk.symm
  exact ⟨rfl, h.base.touch hp.t (fun hk => by have := hS1 _ hk; omega) (fun hk => by have := hS1 _ hk; omega) (fun k hk => by have := hS1 _ hk; omega), h.v7.touch hp.t n7, hp.var, h.ne,
    owns_touch h.da hp.t (fun g hg hk => by have := hS1 _ hk; have := h.la g hg; omega), owns_touch h.ma hp.t (fun g hg hk => by have := hS1 _ hk; have := h.lb g hg; omega), hp.d, hp.m, h.la, h.lb, h.hN, h.h0⟩
def Want36 (w wx : World) (dv mv : Value) (E t size x : Int) (s : ByteArray) (r : Value) : Prop := r = .bool false ∧ Base w wx dv mv E t size x s
set_option maxRecDepth 100000 in
set_option maxHeartbeats 4000000 in
theorem puts_any (dv mv pv : Value) (E : Int) (D : List UInt8) (M : List Int) (L : List Pc) (t size : Int) (x : Nat) (s : ByteArray) (w : World) (hd : DAt w dv D) (hm : MAt w mv M) (hp : PAt w pv L) (hD : D.length ≤ 140737488351232) (hM : M.length ≤ 17592186043904)
    (ht0 : 0 ≤ t) (ht1 : t ≤ 18446744073709551615) (hx : x < 18446744073709551616) (hs : s.size ≤ 9223372036854775807) :
    Calls Try.prog 4 #[.agg #[dv, mv, .int .u64 E], .agg #[.int .u64 t, .int .i64 size, .int .u64 x, .string s], pv] w fun e w' => e = .returned (.bool true) ∧ Below w.heap.size w w' := by
  obtain ⟨p, cap, rfl⟩ := hd.is
  obtain ⟨q, cap2, rfl⟩ := hm.is
  obtain ⟨pp, capp, rfl⟩ := hp.is
  have HD := Lib.hid hd
  have HM := Lib.hid hm
  have HP := Lib.hid hp
  have HT := Lib.hid (And.intro ht0 ht1)
  have HX := Lib.hid hx
  have HS := Lib.hid hs
  clear hd hm hp ht0 ht1 hx hs
  have HBN := Lib.hid (base_new w (.slice p D.length cap) (.slice q M.length cap2) E t size x s)
  go_enter Try.func4, Try.ntmps4
  go_wp2_with fail
  refine (awake_any _).mono ?_
  rintro e w0 ⟨rfl, hb0⟩
  have HB0 := Lib.hid (HBN.out.below hb0)
  clear hb0 HBN
  go_upto_region 3 with fail
  go_cut [7, 8] (fun s7 s8 wx => Two w0 wx D M E s7 s8)
  case first =>
    obtain ⟨a0, a1, a2, _⟩ := HB0.out.cells
    have N0 : Below w0.heap.size w0 w0 := Below.refl _ _
    have hS : ∀ w', Below w0.heap.size w0 w' → w'.cell? ⟨w.heap.size, 0, none⟩ = some (.slice p D.length cap) ∧ w'.cell? ⟨w.heap.size, 1, none⟩ = some (.slice q M.length cap2) ∧ w'.cell? ⟨w.heap.size, 2, none⟩ = some (.int .u64 E) := fun w' hb => by
      obtain ⟨a0, a1, a2, _⟩ := (HB0.out.below hb).cells
      exact ⟨a0, a1, a2⟩
    have hC : ∀ W, Below w0.heap.size w0 W → Calls Try.prog 11 #[.agg #[.slice p D.length cap, .slice q M.length cap2, .int .u64 E]] W (CopiedIn w0 W D M E) := fun W hb =>
      (rcopy_any _ _ E D M W (HD.out.below (below_then HB0.out.2.2 hb)) (HM.out.below (below_then HB0.out.2.2 hb)) hD hM).mono fun _ _ ⟨dv, mv, he, hd, hm, hb2⟩ => by
        obtain ⟨pv, cv, rfl⟩ := owns_shape hd
        obtain ⟨qv, cv2, rfl⟩ := owns_shape hm
        exact ⟨pv, cv, qv, cv2, he, hd, hm, below_then hb hb2, hb2⟩
    have HSS := Lib.hid hS
    have HC := Lib.hid hC
    clear hS hC a0 a1 a2
    go_region_held3 (fun w' => w'.cell? ⟨w.heap.size, 0, none⟩ = some (.slice p D.length cap) ∧ w'.cell? ⟨w.heap.size, 1, none⟩ = some (.slice q M.length cap2) ∧ w'.cell? ⟨w.heap.size, 2, none⟩ = some (.int .u64 E))
      ((refine HSS.out _ ?_; (repeat (first | with_reducible exact N2 | with_reducible exact N1 | with_reducible exact N0 | with_reducible refine nb_drew ?_ | with_reducible refine nb_alloc ?_ _ | with_reducible refine nb_set (by omega) ?_ _ _))))
      (first
        | (go_at_call 11; (with_reducible refine (HC.out _ ?bel2).mono ?_); (case bel2 => (repeat (first | with_reducible exact N1 | with_reducible refine nb_drew ?_ | with_reducible refine nb_alloc ?_ _))); rintro e u2 ⟨pb, cb, qb, cb2, rfl, hdb, hmb, N2, hb2⟩; have s2 := N2.size; (first | (obtain ⟨M2, V3, V4⟩ := back2 (w := u1) hb2; obtain ⟨k0, k1, k2⟩ := V3.cells; have k3 := V3.free 0; have k4 := V3.free 1; have k5 := V3.free 2; obtain ⟨l0, l1, l2⟩ := V4.cells; have l3 := V4.free 0; have l4 := V4.free 1; have l5 := V4.free 2; have kl := V3.lt; have ll := V4.lt) | (obtain ⟨M2, V3⟩ := back1 (w := u1) hb2; obtain ⟨k0, k1, k2⟩ := V3.cells; have k3 := V3.free 0; have k4 := V3.free 1; have k5 := V3.free 2; have kl := V3.lt) | have M2 := back0 (w := u1) hb2); have t2 := M2.size; try (have U1 := V1.below M2; obtain ⟨m0, m1, m2⟩ := U1.cells; have m3 := U1.free 0; have m4 := U1.free 1; have m5 := U1.free 2; have ml := U1.lt); try (have U2 := V2.below M2; obtain ⟨n0, n1, n2⟩ := U2.cells; have n3 := U2.free 0; have n4 := U2.free 1; have n5 := U2.free 2; have nl := U2.lt))
        | (go_at_call 11; (with_reducible refine (HC.out _ ?bel1).mono ?_); (case bel1 => (repeat (first | with_reducible exact N0 | with_reducible refine nb_drew ?_ | with_reducible refine nb_alloc ?_ _))); rintro e u1 ⟨pa, ca, qa, ca2, rfl, hda, hma, N1, hb1⟩; have s1 := N1.size; (first | (obtain ⟨M1, V1, V2⟩ := back2 (w := w0) (undrew hb1); have vl := V1.lt; have wl := V2.lt) | (obtain ⟨M1, V1⟩ := back1 (w := w0) (undrew hb1); have vl := V1.lt) | have M1 := back0 (w := w0) (undrew hb1))))
    all_goals (go_wp2_with fail; go_meet)
    all_goals
      have HG := got_mk (w := w0) hda hma hdb hmb (by first | exact Nat.le_refl _ | (simp; done) | (simp; omega)) (by first | exact Nat.le_refl _ | (simp; done) | (simp; omega)) N1.size N2 M2
      first
        | with_reducible exact twoA HG
        | with_reducible exact twoA' HG
        | with_reducible exact twoBx HG V3 (by omega)
        | with_reducible exact twoBx HG U1 (by omega)
        | with_reducible exact twoBx' HG V3 (by omega)
        | with_reducible exact twoBx' HG U1 (by omega)
        | with_reducible exact twoCx HG V3 V4 (by omega) (by omega) (by omega)
        | with_reducible exact twoCx HG V4 V3 (by omega) (by omega) (by omega)
        | with_reducible exact twoCx HG U1 V3 (by omega) (by omega) (by omega)
        | with_reducible exact twoCx HG V3 U1 (by omega) (by omega) (by omega)
        | with_reducible exact twoCx HG U1 U2 (by omega) (by omega) (by omega)
        | with_reducible exact twoCx HG U2 U1 (by omega) (by omega) (by omega)
        | fail
  case rest =>
    obtain ⟨z7, z8, N, pa, ca, qa, ca2, pb, cb, qb, cb2, tw⟩ := hcut
    obtain rfl := tw.i7
    obtain rfl := tw.i8
    have hlt0 : w.heap.size + 1 < w0.heap.size := HB0.out.2.1.lt
    have hst : St w w0 wc z7 z8 N (.slice pa D.length ca) (.slice qa M.length ca2) (.slice pb D.length cb) (.slice qb M.length cb2) E D M D M (.slice p D.length cap) (.slice q M.length cap2) t size x s :=
      ⟨HB0.out.below tw.below, tw.v7, tw.v8, tw.ne, tw.da, tw.ma, tw.db, tw.mb, tw.la, tw.lb, tw.hN, hlt0⟩
    have HST := Lib.hid hst
    have hd0 : St w w0 wc.drew z7 z8 N (.slice pa D.length ca) (.slice qa M.length ca2) (.slice pb D.length cb) (.slice qb M.length cb2) E D M D M (.slice p D.length cap) (.slice q M.length cap2) t size x s := hst.below (nb_drew (Below.refl _ _))
    have K0 := Lib.hid hd0
    clear tw hst hd0
    go_wp2_with fail
    generalize hV : putB D.length t s = V
    have HV := Lib.hid hV
    have H22 := Lib.hid (K0.out.put HT.out.1 HT.out.2 HS.out)
    have H23 := Lib.hid (fun (u : World) (K : St w w0 u z7 z8 N (.slice pa D.length ca) (.slice qa M.length ca2) (.slice pb D.length cb) (.slice qb M.length cb2) E (putD D t s) (putM D.length M E t s) D M (.slice p D.length cap) (.slice q M.length cap2) t size x s) => K.rput HT.out.1 HT.out.2 HS.out)
    have hpl := putD_length D t s
    have hml := putM_length D.length M E t s
    have H16 : Hid (∀ u : World, St w w0 u z7 z8 N (.slice pa D.length ca) (.slice qa M.length ca2) (.slice pb D.length cb) (.slice qb M.length cb2) E (putD D t s) (putM D.length M E t s) (putD D t s) (putM D.length M E t s) (.slice p D.length cap) (.slice q M.length cap2) t size x s → Calls Try.prog 16 #[.agg #[.slice pa D.length ca, .slice qa M.length ca2, .int .u64 E], .agg #[.slice pb D.length cb, .slice qb M.length cb2, .int .u64 E]] u fun e u' => e = .returned (.bool true) ∧ St w w0 u' z7 z8 N (.slice pa D.length ca) (.slice qa M.length ca2) (.slice pb D.length cb) (.slice qb M.length cb2) E (putD D t s) (putM D.length M E t s) (putD D t s) (putM D.length M E t s) (.slice p D.length cap) (.slice q M.length cap2) t size x s) := Lib.hid (fun u K =>
      (same_true _ _ _ _ E (putD D t s) (putM D.length M E t s) u K.da.at K.ma.at K.db.at K.mb.at).mono fun _ _ ⟨he, hb⟩ => ⟨he, K.below hb⟩)
    have heq : (V != V) = false := by simp
    rw [hV] at H22 H23
    clear hV hpl hml
    go_upto_region 4 with fail
    go_cut [36] (fun s36 wx => Want36 w wx (.slice p D.length cap) (.slice q M.length cap2) E t size x s s36)
    case first =>
      go_region_held3 (fun w' => w'.cell? ⟨w.heap.size + 1, 0, none⟩ = some (.int .u64 t) ∧ w'.cell? ⟨w.heap.size + 1, 3, none⟩ = some (.string s) ∧ w'.cell? ⟨z7, 0, none⟩ = some (.slice pa D.length ca) ∧ w'.cell? ⟨z7, 1, none⟩ = some (.slice qa M.length ca2) ∧ w'.cell? ⟨z7, 2, none⟩ = some (.int .u64 E) ∧ w'.cell? ⟨z8, 0, none⟩ = some (.slice pb D.length cb) ∧ w'.cell? ⟨z8, 1, none⟩ = some (.slice qb M.length cb2) ∧ w'.cell? ⟨z8, 2, none⟩ = some (.int .u64 E)) (first | exact K3.cells | exact K2.cells | exact K1.cells | exact K0.out.cells)
        (first | (go_at_call 22; (with_reducible refine H22.out.mono ?_); rintro e u1 ⟨rfl, K1⟩) | (go_at_call 23; (with_reducible refine (H23.out _ K1).mono ?_); rintro e u2 ⟨rfl, K2⟩) | (go_at_call 16; (with_reducible refine (H16.out _ K2).mono ?_); rintro e u3 ⟨rfl, K3⟩))
      all_goals (go_wp2_with fail; go_meet; exact ⟨rfl, K3.base⟩)
    case rest =>
      obtain ⟨rfl, hbs⟩ := hcut
      clear H22 H23 H16 K0 HST heq HV HT HS
      have HB1 := Lib.hid hbs
      clear hbs
      go_upto_region 6 with fail
      go_cut [57] (fun s57 wx => Want36 w wx (.slice p D.length cap) (.slice q M.length cap2) E t size x s s57)
      case first =>
        have y0 : ∀ p' : Near wc, p'.wx.cell? ⟨w.heap.size + 1, 1, none⟩ = some (.int .i64 size) := fun p' => (HB1.out.below p'.near).cells.2.2.2.2.1
        have y1 : ∀ p' : Near wc, p'.wx.cell? ⟨w.heap.size + 1, 2, none⟩ = some (.int .u64 x) := fun p' => (HB1.out.below p'.near).cells.2.2.2.2.2.1
        by_cases g1 : size < 0
        · have g2 : decide (0 ≤ size) = false := decide_eq_false (by omega)
          have hne : Nonempty (Near wc) := ⟨⟨wc, Below.refl _ _⟩⟩
          refine wp_region_near (by kernel_rfl) (by kernel_rfl) ?_
          repeat (go_big_quiet_step (fail))
          refine wpQuiet_nil ?_
          rintro _ ⟨pn, rfl⟩
          go_wp2_with fail
          go_meet
          exact ⟨rfl, HB1.out.below pn.near⟩
        by_cases g3 : 8 < size
        · have g2 : decide (0 ≤ size) = true := decide_eq_true (by omega)
          have g4 : decide (size ≤ 8) = false := decide_eq_false (by omega)
          have hne : Nonempty (Near wc) := ⟨⟨wc, Below.refl _ _⟩⟩
          refine wp_region_near (by kernel_rfl) (by kernel_rfl) ?_
          repeat (go_big_quiet_step (fail))
          refine wpQuiet_nil ?_
          rintro _ ⟨pn, rfl⟩
          go_wp2_with fail
          go_meet
          exact ⟨rfl, HB1.out.below pn.near⟩
        · obtain ⟨sz, rfl⟩ : ∃ sz : Nat, size = sz := ⟨size.toNat, by omega⟩
          have hsz : sz ≤ 8 := by omega
          have g2 : decide (0 ≤ (sz : Int)) = true := decide_eq_true (by omega)
          have g4 : decide ((sz : Int) ≤ 8) = true := decide_eq_true (by omega)
          have H24 := Lib.hid (fun p' : Near wc => bytes_any x sz p'.wx HX.out hsz)
          have H25 := Lib.hid (fun p' : Near wc => rbytes_any x sz p'.wx HX.out hsz)
          generalize bytesN x sz = S1 at H24 H25
          have hne : Nonempty (Near wc) := ⟨⟨wc, Below.refl _ _⟩⟩
          refine wp_region_near (by kernel_rfl) (by kernel_rfl) ?_
          repeat (go_big_quiet_step (((first | (go_at_call 24; exact near_call (H24.out _)) | (go_at_call 25; exact near_call (H25.out _))))))
          refine wpQuiet_nil ?_
          rintro _ ⟨pn, rfl⟩
          go_wp2_with fail
          go_meet
          exact ⟨rfl, HB1.out.below pn.near⟩
      case rest =>
        obtain ⟨rfl, hbs⟩ := hcut
        have HB2 := Lib.hid hbs
        clear hbs HB1 HB0 hlt0
        obtain ⟨a0, a1, a2, a3, a4, a5, a6⟩ := HB2.out.cells
        go_wp2_with fail
        refine (rcopy_any _ _ E D M _ (HD.out.below HB2.out.2.2) (HM.out.below HB2.out.2.2) hD hM).mono ?_
        rintro e w2 ⟨dv1, mv1, rfl, hd1, hm1, hb2⟩
        obtain ⟨p1, cap1, rfl⟩ := owns_shape hd1
        obtain ⟨q1, cap11, rfl⟩ := owns_shape hm1
        have hbn := below1 w2 (.cells #[.slice p1 D.length cap1, .slice q1 M.length cap11, .int .u64 E] 26)
        have hz : RamVar (w2.alloc (.cells #[.slice p1 D.length cap1, .slice q1 M.length cap11, .int .u64 E] 26)) w2.heap.size (.slice p1 D.length cap1) (.slice q1 M.length cap11) E := heap_alloc_new _ _
        have HB3 := Lib.hid ((HB2.out.below hb2).below hbn)
        have HC3 := Lib.hid (hd1.at.below hbn)
        have HCM3 := Lib.hid (hm1.at.below hbn)
        have HZ3 := Lib.hid hz
        clear a0 a1 a2 a3 a4 a5 a6 hd1 hm1 hb2 hbn hz HB2
        go_wp2_with fail
        generalize w2.alloc (.cells #[.slice p1 D.length cap1, .slice q1 M.length cap11, .int .u64 E] 26) = w3 at *
        generalize w2.heap.size = z9 at *
        refine (lay_any _ _ _ E D M L _ HC3.out HCM3.out (HP.out.below HB3.out.2.2) hD hM).mono ?_
        rintro e w4 ⟨dva, mva, rfl, hda, hma, hb4⟩
        obtain ⟨pc, capc, rfl⟩ := owns_shape hda
        obtain ⟨qc, capc2, rfl⟩ := owns_shape hma
        generalize hEr : (if layB D.length L = true then (0 : Int) else 50) = er at *
        generalize hEx : (if layB D.length L = true then E else (0 : Int)) = Ex at *
        generalize hDn : (if layB D.length L = true then layD D L else []) = Dn at *
        generalize hMn : (if layB D.length L = true then layM D.length M E L else []) = Mn at *
        have HER := Lib.hid hEr
        have HEX := Lib.hid hEx
        have HDN := Lib.hid hDn
        have HMN := Lib.hid hMn
        clear hEr hEx hDn hMn
        have hbn := below1 w4 (.cells #[.slice pc Dn.length capc, .slice qc Mn.length capc2, .int .u64 Ex] 26)
        have hz : RamVar (w4.alloc (.cells #[.slice pc Dn.length capc, .slice qc Mn.length capc2, .int .u64 Ex] 26)) w4.heap.size (.slice pc Dn.length capc) (.slice qc Mn.length capc2) Ex := heap_alloc_new _ _
        have HB5 := Lib.hid ((HB3.out.below hb4).below hbn)
        have HC5 := Lib.hid ((HC3.out.below hb4).below hbn)
        have HCM5 := Lib.hid ((HCM3.out.below hb4).below hbn)
        have HZ5 := Lib.hid ((HZ3.out.below hb4).below hbn)
        have HX5 := Lib.hid (hda.at.below hbn)
        have HXM5 := Lib.hid (hma.at.below hbn)
        have HZX5 := Lib.hid hz
        clear HB3 HC3 HCM3 HZ3 hda hma hb4 hbn hz
        obtain ⟨a0, a1, a2, _⟩ := HB5.out.cells
        go_wp2_with fail
        generalize w4.alloc (.cells #[.slice pc Dn.length capc, .slice qc Mn.length capc2, .int .u64 Ex] 26) = w5 at *
        generalize w4.heap.size = z10 at *
        refine (rlay_any _ _ _ E D M L _ (HD.out.below HB5.out.2.2) (HM.out.below HB5.out.2.2) (HP.out.below HB5.out.2.2) hD hM).mono ?_
        rintro e w6 ⟨dvb, mvb, rfl, hdb, hmb, hb6⟩
        rw [HER.out, HEX.out]
        rw [HDN.out] at hdb
        rw [HMN.out] at hmb
        obtain ⟨pd, capd, rfl⟩ := owns_shape hdb
        obtain ⟨qd, capd2, rfl⟩ := owns_shape hmb
        have hbn := below1 w6 (.cells #[.slice pd Dn.length capd, .slice qd Mn.length capd2, .int .u64 Ex] 26)
        have hz : RamVar (w6.alloc (.cells #[.slice pd Dn.length capd, .slice qd Mn.length capd2, .int .u64 Ex] 26)) w6.heap.size (.slice pd Dn.length capd) (.slice qd Mn.length capd2) Ex := heap_alloc_new _ _
        have HB7 := Lib.hid ((HB5.out.below hb6).below hbn)
        have HC7 := Lib.hid ((HC5.out.below hb6).below hbn)
        have HCM7 := Lib.hid ((HCM5.out.below hb6).below hbn)
        have HZ7 := Lib.hid ((HZ5.out.below hb6).below hbn)
        have HX7 := Lib.hid ((HX5.out.below hb6).below hbn)
        have HXM7 := Lib.hid ((HXM5.out.below hb6).below hbn)
        have HZX7 := Lib.hid ((HZX5.out.below hb6).below hbn)
        have HY7 := Lib.hid (hdb.at.below hbn)
        have HYM7 := Lib.hid (hmb.at.below hbn)
        clear a0 a1 a2 HB5 HC5 HCM5 HZ5 HX5 HXM5 HZX5 hdb hmb hb6 hbn
        obtain ⟨c0, c1, c2⟩ := HZX7.out.cells
        go_wp2_with fail
        generalize w6.alloc (.cells #[.slice pd Dn.length capd, .slice qd Mn.length capd2, .int .u64 Ex] 26) = w7 at *
        refine (same_true _ _ _ _ Ex Dn Mn _ HX7.out HXM7.out HY7.out HYM7.out).mono ?_
        rintro e w8 ⟨rfl, hb8⟩
        have HB8 := Lib.hid (HB7.out.below hb8)
        have HC8 := Lib.hid (HC7.out.below hb8)
        have HCM8 := Lib.hid (HCM7.out.below hb8)
        have HZ8 := Lib.hid (HZ7.out.below hb8)
        clear c0 c1 c2 hz hb8 HB7 HC7 HCM7 HZ7 HX7 HXM7 HZX7 HY7 HYM7
        obtain ⟨a0, a1, a2, _⟩ := HB8.out.cells
        obtain ⟨c0, c1, c2⟩ := HZ8.out.cells
        go_wp2_with fail
        refine (same_true _ _ _ _ E D M _ HC8.out HCM8.out (HD.out.below HB8.out.2.2) (HM.out.below HB8.out.2.2)).mono ?_
        rintro e w9 ⟨rfl, hb9⟩
        have HB9 := Lib.hid (below_then HB8.out.2.2 hb9)
        clear hb9
        go_wp2_with fail
        go_ret
        exact ⟨ret_bool (by simp), HB9.out⟩
end Go.Proofs.Ytocphogddjcblaa
