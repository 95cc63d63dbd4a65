/- Copies. -/
import Derived.Test.YtjohcpokmdofkaaGreatDoorYBU
import Derived.Test.YtjohcpokmdofkaaGreatDoorYRD
namespace Go.Proofs.YtjohcpokmdofkaaGreatDoor
open Go.RowKit Go.Deep Go.Joins
/-- Two machines that differ in where their parts lie alone. -/
structure Like (m r : Mc) : Prop where
  h : r.h = m.h
  b : r.b = m.b.at r.b.fp r.b.fn r.b.fc
  E : r.E = m.E
  cnt : r.cnt = m.cnt
  nxt : r.nxt = m.nxt
theorem Like.refl (m : Mc) : Like m m := ⟨rfl, rfl, rfl, rfl, rfl⟩



/-- A copy of a machine, not yet in a variable: its parts lie in blocks from N on. -/
structure CP (w : World) (N : Nat) (q : Option Addr) (c : Nat) (dv mv ov : Value) (p : Pt) : Prop where
  fr : FT w N (.slice q p.F.length c) p.F
  d : OwnD w N dv p.D
  mm : OwnM w N mv p.M
  o : w.ownsRow N 175 3 ov p.O.length (oC p.O)
theorem CP.next {w w' : World} {N : Nat} {q : Option Addr} {c : Nat} {dv mv ov : Value} {p : Pt} (h : CP w N q c dv mv ov p) (hb : Below w.heap.size w w') : CP w' N q c dv mv ov p := ⟨h.fr.below hb, h.d.below hb, h.mm.below hb, owns_below h.o hb⟩
theorem CP.base {w : World} {N B : Nat} {q : Option Addr} {c : Nat} {dv mv ov : Value} {p : Pt} (h : CP w N q c dv mv ov p) (hB : B ≤ N) : CP w B q c dv mv ov p := ⟨h.fr.base hB, owns_base h.d hB, owns_base h.mm hB, owns_base h.o hB⟩
theorem CP.over {w : World} {N g : Nat} {q : Option Addr} {c : Nat} {dv mv ov : Value} {p : Pt} {cs : Array Value} (h : CP w N q c dv mv ov p) (k : w.heap[g]? = some (.cells cs 42 (0, 0))) (cs' : Array Value) : CP (w.setRow g cs') N q c dv mv ov p :=
  ⟨h.fr.over k (by decide) cs', owns_over h.d k (by decide) cs', owns_over h.mm k (by decide) cs', owns_over h.o k (by decide) cs'⟩
/-- What a copy's parts are in, when it is in a variable. -/
abbrev atM (m : Mc) (n : Nat) (q : Option Addr) (c : Nat) (dv mv ov : Value) : Mc := { m with b := m.b.at q n c, dv := dv, mv := mv, ov := ov }
theorem CP.ms {w : World} {N z : Nat} {q : Option Addr} {c : Nat} {dv mv ov : Value} {p : Pt} {m : Mc} (h : CP w N q c dv mv ov p) (hz : N ≤ z) (k : MBox w z (atM m p.F.length q c dv mv ov)) : MS w N z (atM m p.F.length q c dv mv ov) p := ⟨k, hz, h.fr, h.d, h.mm, h.o⟩
theorem atM_like (m : Mc) (n : Nat) (q : Option Addr) (c : Nat) (dv mv ov : Value) : Like m (atM m n q c dv mv ov) := ⟨rfl, rfl, rfl, rfl, rfl⟩
/-- The blocks of a copy that is in the variable z, when the parts lie from N on and below L. -/
theorem CP.lt {w : World} {N : Nat} {q : Option Addr} {c : Nat} {dv mv ov : Value} {p : Pt} {m : Mc} (h : CP w N q c dv mv ov p) {z k : Nat} (hk : Ow (atM m p.F.length q c dv mv ov) z k) : k = z ∨ (N ≤ k ∧ k < w.heap.size) := by
  rcases hk with hk | hk | hk | hk | hk
  · exact .inl hk
  · exact .inr (owns_lt h.d hk.symm)
  · exact .inr (owns_lt h.mm hk.symm)
  · exact .inr (owns_lt h.o hk.symm)
  · right
    have hb := h.fr.blk
    change some k = (Value.slice q p.F.length c).ownBlock at hk
    cases q with
    | none => cases hk
    | some a =>
      simp only [Value.ownBlock, Option.some.injEq] at hk
      obtain ⟨h1, cur, h2⟩ := hb a _ _ rfl
      rw [hk]
      exact ⟨h1, (Array.getElem?_eq_some_iff.1 h2).1⟩

end Go.Proofs.YtjohcpokmdofkaaGreatDoor
