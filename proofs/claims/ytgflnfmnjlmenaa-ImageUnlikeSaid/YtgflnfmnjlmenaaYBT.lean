/- The state of a machine; Load of the bus. A machine of one's own, further. -/
import Derived.Test.YtgflnfmnjlmenaaYBM
import Derived.Test.YtgflnfmnjlmenaaYDLZ
import Derived.Test.YtgflnfmnjlmenaaYDAA
namespace Go.Proofs.Ytgflnfmnjlmenaa
open Go.RowKit Go.Deep Go.Joins
/-- The parts of a machine that lie elsewhere: frames, bytes, marks, records. -/
structure Pt where
  F : List ByteArray
  D : List UInt8
  M : List Int
  O : List Rec
/-- The blocks that are a machine's own: its own one, and those that its parts lie in. -/
def Ow (m : Mc) (z k : Nat) : Prop := k = z ∨ some k = m.dv.ownBlock ∨ some k = m.mv.ownBlock ∨ some k = m.ov.ownBlock ∨ some k = (Value.slice m.b.fp m.b.fn m.b.fc).ownBlock
/-- A machine in memory of one's own, from block B on. -/
structure MS (w : World) (B z : Nat) (m : Mc) (p : Pt) : Prop where
  box : MBox w z m
  big : B ≤ z
  fr : FT w B (.slice m.b.fp m.b.fn m.b.fc) p.F
  d : OwnD w B m.dv p.D
  mm : OwnM w B m.mv p.M
  o : w.ownsRow B 52 3 m.ov p.O.length (oC p.O)
theorem MS.one {w : World} {B z : Nat} {m : Mc} {p : Pt} (h : MS w B z m p) : Mc1 m := ⟨one_t h.d, one_t h.mm, one_t h.o⟩
theorem MS.len {w : World} {B z : Nat} {m : Mc} {p : Pt} (h : MS w B z m p) : m.b.fn = p.F.length := h.fr.rd.len
theorem MS.lt {w : World} {B z : Nat} {m : Mc} {p : Pt} (h : MS w B z m p) {k : Nat} (hk : Ow m z k) : B ≤ k ∧ k < w.heap.size := by
  rcases hk with rfl | hk | hk | hk | hk
  · exact ⟨h.big, h.box.lt⟩
  · exact owns_lt h.d hk.symm
  · exact owns_lt h.mm hk.symm
  · exact owns_lt h.o hk.symm
  · have hb := h.fr.blk
    revert hk hb
    cases m.b.fp with
    | none => intro hk; cases hk
    | some a =>
      intro hk hb
      simp only [Value.ownBlock, Option.some.injEq] at hk
      obtain ⟨h1, cur, h2⟩ := hb a _ _ rfl
      rw [hk]
      exact ⟨h1, (Array.getElem?_eq_some_iff.1 h2).1⟩
theorem FT.keep' {w w' : World} {B : Nat} {v : Value} {F : List ByteArray} (h : FT w B v F) (hb : ∀ g, v.ownBlock = some g → w'.heap[g]? = w.heap[g]?) : FT w' B v F :=
  ⟨Reads.keep h.rd fun p n c hv => hb _ (by rw [hv]; rfl), fun p n c hv => by obtain ⟨h1, cur, h2⟩ := h.blk p n c hv; exact ⟨h1, cur, (hb _ (by rw [hv]; rfl)).trans h2⟩⟩
theorem MS.keep {w w' : World} {B z : Nat} {m : Mc} {p : Pt} (h : MS w B z m p) (hb : ∀ k, Ow m z k → w'.heap[k]? = w.heap[k]?) : MS w' B z m p :=
  ⟨(hb z (.inl rfl)).trans h.box, h.big, h.fr.keep' fun g hg => hb g (.inr (.inr (.inr (.inr hg.symm)))), owns_same h.d fun g hg => hb g (.inr (.inl hg.symm)), owns_same h.mm fun g hg => hb g (.inr (.inr (.inl hg.symm))), owns_same h.o fun g hg => hb g (.inr (.inr (.inr (.inl hg.symm))))⟩
theorem MS.next {w w' : World} {B z : Nat} {m : Mc} {p : Pt} (h : MS w B z m p) (hb : Below w.heap.size w w') : MS w' B z m p := h.keep fun k hk => hb.block k (h.lt hk).2
/-- A call that works on a machine: the machine behind it, and that nothing else has turned. -/
def Did (W W' : World) (B z : Nat) (m r : Mc) (p : Pt) : Prop :=
  ∃ q c dv mv ov, MS W' B z { r with b := r.b.at q p.F.length c, dv := dv, mv := mv, ov := ov } p ∧ Touch W W' (Ow m z) ∧ ∀ k, Ow { r with b := r.b.at q p.F.length c, dv := dv, mv := mv, ov := ov } z k → Ow m z k ∨ W.heap.size ≤ k
theorem Did.none {W W' : World} {B z : Nat} {m : Mc} {p : Pt} (K : MS W B z m p) (hb : Below W.heap.size W W') : Did W W' B z m m p := by
  have e : m.b.at m.b.fp p.F.length m.b.fc = m.b := by rw [← K.len]; rfl
  refine ⟨m.b.fp, m.b.fc, m.dv, m.mv, m.ov, ?_, touch_of_below hb _, ?_⟩
  · rw [e]; exact K.next hb
  · rw [e]; exact fun k hk => .inl hk
/-- The machine's board turned, and its frames are new. -/
theorem Did.frames {W W' wx : World} {B z : Nat} {m : Mc} {p : Pt} {b : Bd} {F : List ByteArray} {q : Option Addr} {c : Nat} (K : MS W B z m p) (hB : B ≤ W.heap.size) (hb : Below W.heap.size W wx) (ho : OwnF wx W.heap.size (.slice q F.length c) F) (hw : W' = wx.setRow z (mcC { m with b := b.at q F.length c })) : Did W W' B z m { m with b := b } { p with F := F } := by
  have k := K.next hb
  refine ⟨q, c, m.dv, m.mv, m.ov, ?_, (touch_of_below hb (Ow m z)).trans (by subst hw; exact (Touch.refl wx (Ow m z)).setRow (.inl (.inl rfl)) _), ?_⟩
  · have ne : ∀ g, g ≠ z → W'.heap[g]? = wx.heap[g]? := fun g hg => by subst hw; exact setRow_other wx z g _ hg
    refine ⟨k.box.put hw, k.big, ?_, owns_same k.d fun g hg => ne g fun x => not_at k.d k.box (by decide) (by rw [hg, x]), owns_same k.mm fun g hg => ne g fun x => not_at k.mm k.box (by decide) (by rw [hg, x]), owns_same k.o fun g hg => ne g fun x => not_at k.o k.box (by decide) (by rw [hg, x])⟩
    refine ((FT.of ho).base hB).keep fun g cur _ hg => ne g fun x => ?_
    subst x
    have := hg.symm.trans k.box
    simp at this
  · intro k hk
    rcases hk with hk | hk | hk | hk | hk
    · exact .inl (.inl hk)
    · exact .inl (.inr (.inl hk))
    · exact .inl (.inr (.inr (.inl hk)))
    · exact .inl (.inr (.inr (.inr (.inl hk))))
    · exact .inr (owns_lt ho hk.symm).1
end Go.Proofs.Ytgflnfmnjlmenaa
namespace Go.Proofs.Ytgflnfmnjlmenaa
open Go.RowKit Go.Deep Go.Joins
/-- A record in a block. -/
abbrev rcC (r : Rec) : Array Value := #[.int .u64 r.1, .int .i64 r.2.1, .string r.2.2]
abbrev rcV (r : Rec) : Value := .agg (rcC r)
abbrev rcZ : Array Value := #[.int .u64 0, .int .i64 0, .string ⟨#[]⟩]
abbrev rcO : Obj := .cells rcZ 52
theorem info52 : ∃ i, Try.prog.info? 52 = some i ∧ i.zero = some (.agg rcZ) ∧ i.size = 3 ∧ i.bytes = 32 := by
  obtain ⟨i, h1, h2, h3, h4⟩ := info_parts (show (Try.prog.info? 52).map (fun i => (i.zero, i.size, i.bytes)) = some (some (.agg rcZ), 3, 32) by kernel_rfl)
  exact ⟨i, h1, h2, h3, h4⟩
theorem Mem.swap {W w : World} {x y : Nat × Array Value × Nat} {l : List (Nat × Array Value × Nat)} {r : List (Nat × Value × Nat × List Value)} (h : Mem W w (x :: y :: l) r) : Mem W w (y :: x :: l) r := by
  have hm : ∀ u, u ∈ y :: x :: l → u ∈ x :: y :: l := fun u hu => by simp only [List.mem_cons] at hu ⊢; rcases hu with h | h | h; exact .inr (.inl h); exact .inl h; exact .inr (.inr h)
  refine ⟨fun u hu => h.cel u (hm u hu), ?_, fun u hu => h.typ u (hm u hu), fun u hu => h.big u (hm u hu), h.own, h.row, h.below⟩
  have := h.nod
  simp only [List.map_cons, List.nodup_cons, List.mem_cons, not_or] at this ⊢
  exact ⟨⟨fun e => this.1.1 e.symm, this.2.1⟩, this.1.2, this.2.2⟩
theorem FT.over {w : World} {B g t : Nat} {v : Value} {F : List ByteArray} {cs : Array Value} (h : FT w B v F) (k : w.heap[g]? = some (.cells cs t (0, 0))) (ht : t ≠ 9) (cs' : Array Value) : FT (w.setRow g cs') B v F :=
  h.keep fun x cur _ hx => setRow_other w g x cs' fun e => by
    subst e
    have := hx.symm.trans k
    simp only [Option.some.injEq, Obj.cells.injEq] at this
    exact ht this.2.1.symm
theorem owns_cap {w : World} {B n c sz e : Nat} {q : Option Addr} {xs : List Value} (h : w.ownsRow B e sz (.slice q n c) n xs) : (q = none ∨ ∃ g, q = some ⟨g, 0, none⟩) ∧ n ≤ c := by
  rcases h.2 with ⟨e1, e2⟩ | ⟨g, cap, cur, e1, _, _, h3, _⟩
  · simp only [Value.slice.injEq] at e1
    exact ⟨.inl e1.1, by omega⟩
  · simp only [Value.slice.injEq, true_and] at e1
    exact ⟨.inr ⟨g, e1.1⟩, by omega⟩
theorem owns_over {w : World} {B n size g : Nat} {e t : TypeId} {v : Value} {xs : List Value} {c : Array Value} (h : w.ownsRow B e size v n xs) (hp : w.heap[g]? = some (.cells c t (0, 0))) (hne : e ≠ t) (cs : Array Value) : (w.setRow g cs).ownsRow B e size v n xs :=
  owns_same h fun x hx => setRow_other w g x cs fun e => not_at h hp hne (by rw [hx, e])



/-! A machine of noughts. -/
def regZ : Reg := ⟨0, 0, 0, 0, 0, 0, 0, 0, 0, 0, 0, 0, 0, 0, 0, 0⟩
def hartZ : Hart := ⟨List.replicate 32 0, rfl, 0, 0, regZ, false, 0⟩
def mcZ : Mc := ⟨hartZ, bdZ, .slice none 0 0, .slice none 0 0, 0, 0, 0, .slice none 0 0⟩
def zc42 : Array Value := mcC mcZ
theorem zc42_ne : zc42 ≠ #[] := by intro h; have := congrArg Array.size h; unfold zc42 at this; rw [mcC_size] at this; cases this
attribute [simp] zc42_ne
theorem zero_of {P : Program} {t : TypeId} {i : TypeInfo} {z : Value} (h : P.info? t = some i) (hz : i.zero = some z) (w : World) : (zeroValue t).run P w = .ok z w := by
  simp [zeroValue, typeInfo, h, hz, Sem.run_bind]
theorem zeroValue42 (w : World) : (zeroValue 42).run Try.prog w = .ok (.agg zc42) w := by
  have hh : (Try.prog.info? 42).map (·.zero) = some (some (.agg zc42)) := by kernel_rfl
  cases h : Try.prog.info? 42 with
  | none => rw [h] at hh; cases hh
  | some i => rw [h] at hh; exact zero_of h (by simpa using hh) w
attribute [simp] zeroValue42
end Go.Proofs.Ytgflnfmnjlmenaa
