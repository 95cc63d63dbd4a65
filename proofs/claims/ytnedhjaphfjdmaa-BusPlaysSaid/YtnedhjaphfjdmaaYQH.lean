/- BusPlays: machines that are alike go on alike. -/
import Derived.Test.YtnedhjaphfjdmaaYQG
import Derived.Test.YtnedhjaphfjdmaaYBX
namespace Go.Proofs.Ytnedhjaphfjdmaa
open Go.RowKit Go.Deep Go.Joins
theorem ite_2 {α : Type} (P : α → α → Prop) (c : Prop) [Decidable c] (a b a' b' : α) (ha : P a a') (hb : P b b') : P (if c then a else b) (if c then a' else b') := by split <;> assumption
theorem ldF_at (b : Bd) (q : Option Addr) (n c : Nat) (F : List ByteArray) (t s k : Int) : (ldF (b.at q n c) F t s k).2 = (ldF b F t s k).2 ∧ ((ldF b F t s k).2.2.2 = true → (ldF (b.at q n c) F t s k).1 = (ldF b F t s k).1.at q n c) := by
  show (fun R R' : Bd × List ByteArray × Int × Bool => R'.2 = R.2 ∧ (R.2.2.2 = true → R'.1 = R.1.at q n c)) (ldF b F t s k) (ldF (b.at q n c) F t s k)
  unfold ldF
  iterate 12 refine ite_2 (fun R R' : Bd × List ByteArray × Int × Bool => R'.2 = R.2 ∧ (R.2.2.2 = true → R'.1 = R.1.at q n c)) _ _ _ _ _ ⟨rfl, fun _ => rfl⟩ ?_
  exact ⟨rfl, fun h => by cases h⟩
theorem stF_at (b : Bd) (q : Option Addr) (n c : Nat) (F : List ByteArray) (t s v : Int) : (stF (b.at q n c) F t s v).2 = (stF b F t s v).2 ∧ ((stF b F t s v).2.2.2.2 = true → (stF (b.at q n c) F t s v).1 = (stF b F t s v).1.at q n c) := by
  show (fun R R' : Bd × List ByteArray × Int × ByteArray × Bool => R'.2 = R.2 ∧ (R.2.2.2.2 = true → R'.1 = R.1.at q n c)) (stF b F t s v) (stF (b.at q n c) F t s v)
  unfold stF
  iterate 10 refine ite_2 (fun R R' : Bd × List ByteArray × Int × ByteArray × Bool => R'.2 = R.2 ∧ (R.2.2.2.2 = true → R'.1 = R.1.at q n c)) _ _ _ _ _ ⟨rfl, fun _ => rfl⟩ ?_
  exact ⟨rfl, fun h => by cases h⟩
/-- A machine with its parts elsewhere. -/
abbrev reM (m : Mc) (q : Option Addr) (n c : Nat) (dv mv ov : Value) : Mc := { m with b := m.b.at q n c, dv := dv, mv := mv, ov := ov }
theorem Like.re {m r : Mc} (l : Like m r) : r = reM m r.b.fp r.b.fn r.b.fc r.dv r.mv r.ov := by
  obtain ⟨h1, h2, h3, h4, h5⟩ := l
  cases r
  cases h1
  cases h3
  cases h4
  cases h5
  simp only at h2
  show Mc.mk _ _ _ _ _ _ _ _ = Mc.mk _ _ _ _ _ _ _ _
  rw [← h2]
theorem like_of (m : Mc) (q q' : Option Addr) (n c n' c' : Nat) (dv mv ov dv' mv' ov' : Value) : Like (reM m q n c dv mv ov) (reM m q' n' c' dv' mv' ov') := ⟨rfl, rfl, rfl, rfl, rfl⟩
/-- What a machine is but for where its parts lie. -/
structure Same (m r : Mc) : Prop where
  s : ∀ q n c dv mv ov, reM r q n c dv mv ov = reM m q n c dv mv ov
theorem Same.like {m r : Mc} (h : Same m r) (q q' : Option Addr) (n c n' c' : Nat) (dv mv ov dv' mv' ov' : Value) : Like (reM m q n c dv mv ov) (reM r q' n' c' dv' mv' ov') := by
  rw [h.s]
  exact like_of m q q' n c n' c' dv mv ov dv' mv' ov'
theorem act_same (m : Mc) (p : Pt) (k : Int) (es : ByteArray) (q : Option Addr) (n c : Nat) (dv mv ov : Value) : (acM (reM m q n c dv mv ov) p k es).2 = (acM m p k es).2 ∧ Same (acM m p k es).1 (acM (reM m q n c dv mv ov) p k es).1 := by
  unfold acM
  simp only [actF_at]
  cases (actF m.b p.F m.E p.D p.M k es).ok <;> exact ⟨rfl, ⟨fun _ _ _ _ _ _ => rfl⟩⟩
theorem ld_same (m : Mc) (p : Pt) (t s : Int) (q : Option Addr) (n c : Nat) (dv mv ov : Value) : (ldM (reM m q n c dv mv ov) p t s).2 = (ldM m p t s).2 ∧ Same (ldM m p t s).1 (ldM (reM m q n c dv mv ov) p t s).1 := by
  unfold ldM
  split
  · exact ⟨rfl, ⟨fun _ _ _ _ _ _ => rfl⟩⟩
  split
  · show _ ∧ _
    have e : (reM m q n c dv mv ov).b.pl = m.b.pl := rfl
    have e2 : sourcesV (reM m q n c dv mv ov).b p.F = sourcesV m.b p.F := rfl
    rw [e, e2]
    split
    · exact ⟨rfl, ⟨fun _ _ _ _ _ _ => rfl⟩⟩
    · exact ⟨rfl, ⟨fun _ _ _ _ _ _ => rfl⟩⟩
  · obtain ⟨h1, h2⟩ := ldF_at m.b q n c p.F t s m.cnt
    have e : ldF (reM m q n c dv mv ov).b p.F t s (reM m q n c dv mv ov).cnt = ldF (m.b.at q n c) p.F t s m.cnt := rfl
    rw [e, h1]
    split
    · rename_i h
      rw [h2 h]
      exact ⟨rfl, ⟨fun _ _ _ _ _ _ => rfl⟩⟩
    · exact ⟨rfl, ⟨fun _ _ _ _ _ _ => rfl⟩⟩
theorem st_same (m : Mc) (p : Pt) (t s v : Int) (q : Option Addr) (n c : Nat) (dv mv ov : Value) : (stM (reM m q n c dv mv ov) p t s v).2 = (stM m p t s v).2 ∧ Same (stM m p t s v).1 (stM (reM m q n c dv mv ov) p t s v).1 := by
  unfold stM
  split
  · exact ⟨rfl, ⟨fun _ _ _ _ _ _ => rfl⟩⟩
  split
  · exact ⟨rfl, ⟨fun _ _ _ _ _ _ => rfl⟩⟩
  split
  · have e : (reM m q n c dv mv ov).b.pl = m.b.pl := rfl
    rw [e]
    split
    · exact ⟨rfl, ⟨fun _ _ _ _ _ _ => rfl⟩⟩
    · exact ⟨rfl, ⟨fun _ _ _ _ _ _ => rfl⟩⟩
  · obtain ⟨h1, h2⟩ := stF_at m.b q n c p.F t s v
    have e : stF (reM m q n c dv mv ov).b p.F t s v = stF (m.b.at q n c) p.F t s v := rfl
    rw [e, h1]
    split
    · rename_i h
      rw [h2 h]
      split
      · exact ⟨rfl, ⟨fun _ _ _ _ _ _ => rfl⟩⟩
      · have k := act_same { m with b := (stF m.b p.F t s v).1 } { p with F := (stF m.b p.F t s v).2.1 } (stF m.b p.F t s v).2.2.1 (stF m.b p.F t s v).2.2.2.1 q n c dv mv ov
        exact ⟨by rw [show ({ reM m q n c dv mv ov with b := (stF m.b p.F t s v).1.at q n c } : Mc) = reM { m with b := (stF m.b p.F t s v).1 } q n c dv mv ov from rfl, k.1], k.2⟩
    · exact ⟨rfl, ⟨fun _ _ _ _ _ _ => rfl⟩⟩
theorem lk_same {m r : Mc} (l : Like m r) (p : Pt) (t s v : Int) (rd : Bool) : (lkM r p t s v rd).2 = (lkM m p t s v rd).2 ∧ Same (lkM m p t s v rd).1 (lkM r p t s v rd).1 ∧ lkV r p t s v rd = lkV m p t s v rd := by
  rw [l.re]
  cases rd
  · obtain ⟨h1, h2⟩ := st_same m p t s v r.b.fp r.b.fn r.b.fc r.dv r.mv r.ov
    exact ⟨congrArg Prod.fst h1, h2, congrArg (fun x : Pt × Bool => ((0 : Int), x.2)) h1⟩
  · obtain ⟨h1, h2⟩ := ld_same m p t s r.b.fp r.b.fn r.b.fc r.dv r.mv r.ov
    exact ⟨congrArg Prod.fst h1, h2, congrArg (fun x : Pt × Int × Bool => x.2) h1⟩
theorem lines_same {m r : Mc} (l : Like m r) (p : Pt) : linesV r p = linesV m p := by
  rw [l.re]
  rfl
/-- What is enabled stays numbers of 32 bits. -/
abbrev PlE (m : Mc) : Prop := Pc.U32 m.b.pl.e0 ∧ Pc.U32 m.b.pl.e1
theorem pc_ld_e (h : Pl) (s t z : Int) (he : Pc.U32 h.e0 ∧ Pc.U32 h.e1) (hr : (Pc.ldF h s t z).2.2 = true) : Pc.U32 (Pc.ldF h s t z).1.e0 ∧ Pc.U32 (Pc.ldF h s t z).1.e1 := by
  revert hr
  show (fun R : Pl × Int × Bool => R.2.2 = true → Pc.U32 R.1.e0 ∧ Pc.U32 R.1.e1) (Pc.ldF h s t z)
  unfold Pc.ldF
  iterate 10 refine ite_P (fun R : Pl × Int × Bool => R.2.2 = true → Pc.U32 R.1.e0 ∧ Pc.U32 R.1.e1) _ _ _ (fun _ => he) ?_
  exact fun h => by cases h
theorem pc_st_e (h : Pl) (t z v : Int) (he : Pc.U32 h.e0 ∧ Pc.U32 h.e1) (hr : (Pc.stF h t z v).2 = true) : Pc.U32 (Pc.stF h t z v).1.e0 ∧ Pc.U32 (Pc.stF h t z v).1.e1 := by
  revert hr
  show (fun R : Pl × Bool => R.2 = true → Pc.U32 R.1.e0 ∧ Pc.U32 R.1.e1) (Pc.stF h t z v)
  unfold Pc.stF
  iterate 3 refine ite_P (fun R : Pl × Bool => R.2 = true → Pc.U32 R.1.e0 ∧ Pc.U32 R.1.e1) _ _ _ (fun _ => he) ?_
  refine ite_P (fun R : Pl × Bool => R.2 = true → Pc.U32 R.1.e0 ∧ Pc.U32 R.1.e1) _ _ _ (fun _ => ⟨Pc.u32_and _ _, he.2⟩) ?_
  refine ite_P (fun R : Pl × Bool => R.2 = true → Pc.U32 R.1.e0 ∧ Pc.U32 R.1.e1) _ _ _ (fun _ => ⟨he.1, Pc.u32_and _ _⟩) ?_
  iterate 4 refine ite_P (fun R : Pl × Bool => R.2 = true → Pc.U32 R.1.e0 ∧ Pc.U32 R.1.e1) _ _ _ (fun _ => he) ?_
  exact fun h => by cases h
theorem lk_e (m : Mc) (p : Pt) (t s v : Int) (rd : Bool) (ok : POk m p) (hv : 0 ≤ v ∧ v ≤ 18446744073709551615) (he : PlE m) : PlE (lkM m p t s v rd).1 := by
  cases rd
  · show PlE (stM m p t s v).1
    unfold stM
    split
    · exact he
    split
    · exact he
    split
    · split
      · rename_i h
        exact pc_st_e _ _ _ _ he h
      · exact he
    · split
      · rename_i h
        obtain ⟨_, h2, _⟩ := stF_inv m.b p.F t s v hv ok.bd h
        split
        · show Pc.U32 (stF m.b p.F t s v).1.pl.e0 ∧ Pc.U32 (stF m.b p.F t s v).1.pl.e1
          rw [h2]
          exact he
        · have k := (act_left (stF m.b p.F t s v).1 (stF m.b p.F t s v).2.1 m.E p.D p.M (stF m.b p.F t s v).2.2.1 (stF m.b p.F t s v).2.2.2.1).p
          unfold acM
          dsimp only
          split
          · show Pc.U32 (actF _ _ _ _ _ _ _).b.pl.e0 ∧ Pc.U32 (actF _ _ _ _ _ _ _).b.pl.e1
            rw [k, h2]
            exact he
          · show Pc.U32 (actF _ _ _ _ _ _ _).b.pl.e0 ∧ Pc.U32 (actF _ _ _ _ _ _ _).b.pl.e1
            rw [k, h2]
            exact he
      · exact he
  · show PlE (ldM m p t s).1
    unfold ldM
    split
    · exact he
    split
    · split
      · rename_i h
        exact pc_ld_e _ _ _ _ he h
      · exact he
    · split
      · rename_i h
        obtain ⟨_, h2, _⟩ := bd_ld m.b p.F t s m.cnt ok.bd h
        show Pc.U32 (ldF m.b p.F t s m.cnt).1.pl.e0 ∧ Pc.U32 (ldF m.b p.F t s m.cnt).1.pl.e1
        rw [h2]
        exact he
      · exact he
theorem Like.ok {m r : Mc} {p : Pt} (l : Like m r) (ok : POk m p) : POk r p := by
  rw [l.re]
  exact ⟨⟨ok.bd.addr, ok.bd.nicA, ok.bd.sector⟩, ok.c, ok.fz, ok.fl, ok.dl, ok.ml⟩
theorem Like.plE {m r : Mc} (l : Like m r) (h : PlE m) : PlE r := by
  rw [l.re]
  exact h
/-- Two machines that are alike, in two variables. -/
structure Pair (W w : World) (x y : Nat) (a b : Mc) (q : Pt) (n : Nat) : Prop where
  ma : MS w W.heap.size x a q
  mb : MS w W.heap.size y b q
  below : Below W.heap.size W w
  apart : ∀ k, Ow a x k → ¬ Ow b y k
  like : Like a b
  ok : POk a q
  e : PlE a
  few : q.O.length ≤ n
theorem Pair.next {W w w' : World} {x y n : Nat} {a b : Mc} {q : Pt} (h : Pair W w x y a b q n) (hb : Below w.heap.size w w') : Pair W w' x y a b q n := ⟨h.ma.next hb, h.mb.next hb, below_then h.below hb, h.apart, h.like, h.ok, h.e, h.few⟩
/-- Behind the first look. -/
structure Half (W w : World) (x y : Nat) (a b a' : Mc) (q q' : Pt) (n : Nat) : Prop where
  ma : MS w W.heap.size x a' q'
  mb : MS w W.heap.size y b q
  below : Below W.heap.size W w
  apart : ∀ k, Ow a' x k → ¬ Ow b y k
  like : Like a b
  ok : POk a q
  e : PlE a
  few : q.O.length ≤ n
theorem Pair.half {W w w' : World} {x y n : Nat} {a b r : Mc} {q q' : Pt} (h : Pair W w x y a b q n) (d : Did w w' W.heap.size x a r q') : ∃ q1 c1 dv mv ov, Half W w' x y a b (reM r q1 q'.F.length c1 dv mv ov) q q' n := by
  obtain ⟨q1, c1, dv, mv, ov, hm, ht, ho⟩ := d
  refine ⟨q1, c1, dv, mv, ov, hm, h.mb.keep fun k hk => ht.block k (h.mb.lt hk).2 fun hS => h.apart k hS hk, Touch.below h.below ht (fun k hk => (h.ma.lt hk).1) h.below.size, fun k h1 h2 => ?_, h.like, h.ok, h.e, h.few⟩
  rcases ho k h1 with h' | h'
  · exact h.apart k h' h2
  · exact absurd (h.mb.lt h2).2 (by omega)
theorem Half.pair {W w w' : World} {x y n : Nat} {a b r r2 : Mc} {q q' : Pt} {q1 : Option Addr} {c1 : Nat} {dv mv ov : Value} (h : Half W w x y a b (reM r q1 q'.F.length c1 dv mv ov) q q' n) (d : Did w w' W.heap.size y b r2 q') (hs : Same r r2) (g : Grown a q r q') (he : PlE r) : ∃ a' b', Pair W w' x y a' b' q' (n + 1) ∧ a' = reM r q1 q'.F.length c1 dv mv ov := by
  obtain ⟨q2, c2, dv2, mv2, ov2, hm, ht, ho⟩ := d
  refine ⟨_, _, ⟨h.ma.keep fun k hk => ht.block k (h.ma.lt hk).2 fun hS => h.apart k hk hS, hm, Touch.below h.below ht (fun k hk => (h.mb.lt hk).1) h.below.size, fun k h1 h2 => ?_, hs.like _ _ _ _ _ _ _ _ _ _ _ _, ⟨⟨g.ok.bd.addr, g.ok.bd.nicA, g.ok.bd.sector⟩, g.ok.c, g.ok.fz, g.ok.fl, g.ok.dl, g.ok.ml⟩, he, ?_⟩, rfl⟩
  · rcases ho k h2 with h' | h'
    · exact h.apart k h1 h'
    · exact absurd (h.ma.lt h1).2 (by omega)
  · have := h.few
    rcases g.o with ⟨e, _⟩ | ⟨d, s, e, _⟩
    · rw [e]; omega
    · rw [e]; simp; omega
end Go.Proofs.Ytnedhjaphfjdmaa
