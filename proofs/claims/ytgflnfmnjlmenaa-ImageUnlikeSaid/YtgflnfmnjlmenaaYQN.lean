/- Machines with what ImageUnlike turns: they may be written, and which bytes are the same. -/
import Derived.Test.YtgflnfmnjlmenaaYQM
namespace Go.Proofs.Ytgflnfmnjlmenaa
open Go.RowKit Go.Deep Go.Joins
set_option maxRecDepth 100000
/-- What a machine shares with another that it was made of: all but marks, records, registers, bytes. -/
structure Kin (m m' : Mc) (p p' : Pt) : Prop where
  hh : rightH m'.h = true
  se : m'.b.sec = m.b.sec
  inn : m'.b.inn = m.b.inn
  pl : m'.b.pl = m.b.pl
  fr : p'.F = p.F
  dl : p'.D.length = p.D.length
  ml : p'.M.length = p.M.length
  me : ∀ x ∈ p'.M, x ≤ m'.E
theorem Kin.chk {m m' : Mc} {p p' : Pt} (k : Kin m m' p p') (h : chkM m p = 0) : chkM m' p' = 0 := by
  obtain ⟨h1, _, h3, h4⟩ := chk_zero h
  have e1 : chkB p'.D.length p'.M m'.E = true := by
    have := chk_parts h1
    unfold chkB
    rw [Bool.and_eq_true, decide_eq_true_eq, List.all_eq_true, k.dl, k.ml]
    exact ⟨this, fun x hx => decide_eq_true (k.me x hx)⟩
  have e2 : rightB m'.b p'.F = true := by
    unfold rightB hasB at h3 ⊢
    rw [k.se, k.inn, k.fr]
    exact h3
  unfold chkM
  rw [e1, k.hh, e2, k.pl, h4]
  rfl
theorem chk_le {n : Nat} {M : List Int} {E : Int} (h : chkB n M E = true) : ∀ x ∈ M, x ≤ E := by
  unfold chkB at h
  rw [Bool.and_eq_true, List.all_eq_true] at h
  exact fun x hx => by simpa using h.2 x hx
theorem right_setX {m : Mc} (h : rightH m.h = true) (i : Nat) (v : Int) : rightH (setX m (i + 1) v).h = true := by
  have e : x0V (setX m (i + 1) v).h = x0V m.h := by
    unfold x0V
    show (m.h.x.set (i + 1) v).headD 0 = m.h.x.headD 0
    have := m.h.hx
    generalize m.h.x = l at this
    cases l with
    | nil => cases this
    | cons a l => simp
  unfold rightH at h ⊢
  rw [e]
  exact h
theorem bytes_same {m m' : Mc} {p p' : Pt} (h : chkM m p = 0) (k : Kin m m' p p') (hp : procL m'.h = procL m.h) (hd : devL m'.b = devL m.b) (hc : m'.cnt = m.cnt) (hn : m'.nxt = m.nxt) (hD : p'.D = p.D) : okB m' p' = true ∧ bytesB m' p' = bytesB m p := by
  refine ⟨(ok_all (k.chk h)).2.1, (bytes_iff (ok_all (k.chk h)).2.1 (ok_all h).2.1).2 ⟨?_, hD⟩⟩
  unfold headF
  rw [hp, hd, hc, hn, k.inn, k.se, k.fr]
theorem bytes_reg {m m' : Mc} {p p' : Pt} (N : NOk m) (h : chkM m p = 0) (k : Kin m m' p p') {i : Nat} (hi : i < 31) {v : Int} (hv : In64 v) (hp : m'.h = (setX m (i + 1) v).h) (hd : devL m'.b = devL m.b) (hc : m'.cnt = m.cnt) (hn : m'.nxt = m.nxt) (hD : p'.D = p.D) : okB m' p' = true ∧ (bytesB m p = bytesB m' p' ↔ v = m.h.x.getD (i + 1) 0) := by
  have e : headF m' p' = headF (setX m (i + 1) v) p := by
    unfold headF
    rw [hp, hd, hc, hn, k.inn, k.se, k.fr]
    rfl
  refine ⟨(ok_all (k.chk h)).2.1, ?_⟩
  rw [bytes_iff (ok_all h).2.1 (ok_all (k.chk h)).2.1, e, ← setX_head N (p := p) (show i + 1 < 32 by omega) hv]
  exact ⟨fun h => h.1.symm, fun h => ⟨h.symm, hD.symm⟩⟩
theorem bytes_dat {m m' : Mc} {p p' : Pt} (h : chkM m p = 0) (k : Kin m m' p p') (hp : procL m'.h = procL m.h) (hd : devL m'.b = devL m.b) (hc : m'.cnt = m.cnt) (hn : m'.nxt = m.nxt) : okB m' p' = true ∧ (bytesB m p = bytesB m' p' ↔ p.D = p'.D) := by
  have e : headF m' p' = headF m p := by
    unfold headF
    rw [hp, hd, hc, hn, k.inn, k.se, k.fr]
  refine ⟨(ok_all (k.chk h)).2.1, ?_⟩
  rw [bytes_iff (ok_all h).2.1 (ok_all (k.chk h)).2.1, e]
  exact ⟨fun h => h.2, fun h => ⟨rfl, h⟩⟩
/-- A byte and another one: they are the same just where what was put upon is nought. -/
theorem set_xor {D : List UInt8} {j : Nat} (hj : j < D.length) (b : UInt8) : D = D.set j (D[j] ^^^ b) ↔ b = 0 := by
  constructor
  · intro e
    have k : D[j]? = (D.set j (D[j] ^^^ b))[j]? := by rw [← e]
    rw [List.getElem?_set_self hj, List.getElem?_eq_getElem hj] at k
    have k := Option.some.inj k
    have : D[j] ^^^ D[j] = D[j] ^^^ (D[j] ^^^ b) := by rw [← k]
    rw [← UInt8.xor_assoc, UInt8.xor_self, UInt8.zero_xor] at this
    exact this.symm
  · rintro rfl
    rw [UInt8.xor_zero, List.set_getElem_self]
theorem setX_h {a b : Mc} (h : a.h = b.h) (i : Nat) (v : Int) : (setX a i v).h = (setX b i v).h := by
  obtain ⟨ha, _, _, _, _, _, _, _⟩ := a
  obtain ⟨hb, _, _, _, _, _, _, _⟩ := b
  cases h
  rfl
theorem xor_u8 (a b : UInt8) : bits .xor .u8 (a.toNat : Int) (b.toNat : Int) = ((a ^^^ b).toNat : Int) := by
  show IntKind.u8.wrap ((BitVec.ofInt 8 (a.toNat : Int) ^^^ BitVec.ofInt 8 (b.toNat : Int)).toNat : Int) = _
  have ha := UInt8.toNat_lt a
  have hb := UInt8.toNat_lt b
  rw [BitVec.ofInt_natCast, BitVec.ofInt_natCast, BitVec.toNat_xor, BitVec.toNat_ofNat, BitVec.toNat_ofNat, Nat.mod_eq_of_lt (by omega), Nat.mod_eq_of_lt (by omega), UInt8.toNat_xor]
  have h3 : a.toNat ^^^ b.toNat < 2 ^ 8 := Nat.xor_lt_two_pow (by omega) (by omega)
  simp [IntKind.wrap, IntKind.bits, IntKind.signed]
  omega
theorem byte_of (v : Int) : ∃ b : UInt8, IntKind.u8.wrap v = (b.toNat : Int) := by
  refine ⟨UInt8.ofNat (v % 256).toNat, ?_⟩
  rw [UInt8.toNat_ofNat']
  simp [IntKind.wrap, IntKind.bits, IntKind.signed]
  omega
end Go.Proofs.Ytgflnfmnjlmenaa
