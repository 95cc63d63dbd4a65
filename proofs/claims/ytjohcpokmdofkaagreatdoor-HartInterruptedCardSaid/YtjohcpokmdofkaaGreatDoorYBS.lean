/- The state of a machine; Load of the bus. -/
import Derived.Test.YtjohcpokmdofkaaGreatDoorYBM
import Derived.Test.YtjohcpokmdofkaaGreatDoorYDF
import Derived.Test.YtjohcpokmdofkaaGreatDoorYRY
import Derived.Test.YtjohcpokmdofkaaGreatDoorYDAA
namespace Go.Proofs.YtjohcpokmdofkaaGreatDoor
open Go.RowKit Go.Deep Go.Joins
/-- The parts of a machine that lie elsewhere: frames, bytes, marks, records. -/
structure Pt where
  F : List ByteArray
  D : List UInt8
  M : List Int
  O : List Rec
/-- The blocks that are a machine's own: its own one, and those that its parts lie in. -/
def Ow (m : Mc) (z k : Nat) : Prop := k = z ∨ some k = m.dv.ownBlock ∨ some k = m.mv.ownBlock ∨ some k = m.ov.ownBlock ∨ some k = (Value.slice m.b.fp m.b.fn m.b.fc).ownBlock
/-- A machine in memory of one's own, from block B on. -/
structure MS (w : World) (B z : Nat) (m : Mc) (p : Pt) : Prop where
  box : MBox w z m
  big : B ≤ z
  fr : FT w B (.slice m.b.fp m.b.fn m.b.fc) p.F
  d : OwnD w B m.dv p.D
  mm : OwnM w B m.mv p.M
  o : w.ownsRow B 175 3 m.ov p.O.length (oC p.O)
theorem MS.one {w : World} {B z : Nat} {m : Mc} {p : Pt} (h : MS w B z m p) : Mc1 m := ⟨one_t h.d, one_t h.mm, one_t h.o⟩
theorem MS.len {w : World} {B z : Nat} {m : Mc} {p : Pt} (h : MS w B z m p) : m.b.fn = p.F.length := h.fr.rd.len
theorem MS.lt {w : World} {B z : Nat} {m : Mc} {p : Pt} (h : MS w B z m p) {k : Nat} (hk : Ow m z k) : B ≤ k ∧ k < w.heap.size := by
  rcases hk with rfl | hk | hk | hk | hk
  · exact ⟨h.big, h.box.lt⟩
  · exact owns_lt h.d hk.symm
  · exact owns_lt h.mm hk.symm
  · exact owns_lt h.o hk.symm
  · have hb := h.fr.blk
    revert hk hb
    cases m.b.fp with
    | none => intro hk; cases hk
    | some a =>
      intro hk hb
      simp only [Value.ownBlock, Option.some.injEq] at hk
      obtain ⟨h1, cur, h2⟩ := hb a _ _ rfl
      rw [hk]
      exact ⟨h1, (Array.getElem?_eq_some_iff.1 h2).1⟩
theorem FT.keep' {w w' : World} {B : Nat} {v : Value} {F : List ByteArray} (h : FT w B v F) (hb : ∀ g, v.ownBlock = some g → w'.heap[g]? = w.heap[g]?) : FT w' B v F :=
  ⟨Reads.keep h.rd fun p n c hv => hb _ (by rw [hv]; rfl), fun p n c hv => by obtain ⟨h1, cur, h2⟩ := h.blk p n c hv; exact ⟨h1, cur, (hb _ (by rw [hv]; rfl)).trans h2⟩⟩
theorem MS.keep {w w' : World} {B z : Nat} {m : Mc} {p : Pt} (h : MS w B z m p) (hb : ∀ k, Ow m z k → w'.heap[k]? = w.heap[k]?) : MS w' B z m p :=
  ⟨(hb z (.inl rfl)).trans h.box, h.big, h.fr.keep' fun g hg => hb g (.inr (.inr (.inr (.inr hg.symm)))), owns_same h.d fun g hg => hb g (.inr (.inl hg.symm)), owns_same h.mm fun g hg => hb g (.inr (.inr (.inl hg.symm))), owns_same h.o fun g hg => hb g (.inr (.inr (.inr (.inl hg.symm))))⟩
theorem MS.next {w w' : World} {B z : Nat} {m : Mc} {p : Pt} (h : MS w B z m p) (hb : Below w.heap.size w w') : MS w' B z m p := h.keep fun k hk => hb.block k (h.lt hk).2
/-- A call that works on a machine: the machine behind it, and that nothing else has turned. -/
def Did (W W' : World) (B z : Nat) (m r : Mc) (p : Pt) : Prop :=
  ∃ q c dv mv ov, MS W' B z { r with b := r.b.at q p.F.length c, dv := dv, mv := mv, ov := ov } p ∧ Touch W W' (Ow m z) ∧ ∀ k, Ow { r with b := r.b.at q p.F.length c, dv := dv, mv := mv, ov := ov } z k → Ow m z k ∨ W.heap.size ≤ k
theorem Did.none {W W' : World} {B z : Nat} {m : Mc} {p : Pt} (K : MS W B z m p) (hb : Below W.heap.size W W') : Did W W' B z m m p := by
  have e : m.b.at m.b.fp p.F.length m.b.fc = m.b := by rw [← K.len]; rfl
  refine ⟨m.b.fp, m.b.fc, m.dv, m.mv, m.ov, ?_, touch_of_below hb _, ?_⟩
  · rw [e]; exact K.next hb
  · rw [e]; exact fun k hk => .inl hk
/-- The machine's board turned, and its frames are new. -/
theorem Did.frames {W W' wx : World} {B z : Nat} {m : Mc} {p : Pt} {b : Bd} {F : List ByteArray} {q : Option Addr} {c : Nat} (K : MS W B z m p) (hB : B ≤ W.heap.size) (hb : Below W.heap.size W wx) (ho : OwnF wx W.heap.size (.slice q F.length c) F) (hw : W' = wx.setRow z (mcC { m with b := b.at q F.length c })) : Did W W' B z m { m with b := b } { p with F := F } := by
  have k := K.next hb
  refine ⟨q, c, m.dv, m.mv, m.ov, ?_, (touch_of_below hb (Ow m z)).trans (by subst hw; exact (Touch.refl wx (Ow m z)).setRow (.inl (.inl rfl)) _), ?_⟩
  · have ne : ∀ g, g ≠ z → W'.heap[g]? = wx.heap[g]? := fun g hg => by subst hw; exact setRow_other wx z g _ hg
    refine ⟨k.box.put hw, k.big, ?_, owns_same k.d fun g hg => ne g fun x => not_at k.d k.box (by decide) (by rw [hg, x]), owns_same k.mm fun g hg => ne g fun x => not_at k.mm k.box (by decide) (by rw [hg, x]), owns_same k.o fun g hg => ne g fun x => not_at k.o k.box (by decide) (by rw [hg, x])⟩
    refine ((FT.of ho).base hB).keep fun g cur _ hg => ne g fun x => ?_
    subst x
    have := hg.symm.trans k.box
    simp at this
  · intro k hk
    rcases hk with hk | hk | hk | hk | hk
    · exact .inl (.inl hk)
    · exact .inl (.inr (.inl hk))
    · exact .inl (.inr (.inr (.inl hk)))
    · exact .inl (.inr (.inr (.inr (.inl hk))))
    · exact .inr (owns_lt ho hk.symm).1
/-- What may be of a machine's numbers and lengths. -/
structure POk (m : Mc) (p : Pt) : Prop where
  bd : BdOk m.b
  c : Pc.U32 m.b.pl.c
  fz : ∀ f ∈ p.F, f.size ≤ 9223372036854775807
  fl : p.F.length ≤ 8796093022208
  dl : p.D.length ≤ 140737488351232
  ml : p.M.length ≤ 17592186043904
end Go.Proofs.YtjohcpokmdofkaaGreatDoor
