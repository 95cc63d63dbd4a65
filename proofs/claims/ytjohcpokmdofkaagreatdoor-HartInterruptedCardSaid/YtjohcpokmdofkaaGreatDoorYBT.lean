/- A machine of one's own, further. -/
import Derived.Test.YtjohcpokmdofkaaGreatDoorYBS
import Derived.Test.YtjohcpokmdofkaaGreatDoorYRR
namespace Go.Proofs.YtjohcpokmdofkaaGreatDoor
open Go.RowKit Go.Deep Go.Joins
/-- A record in a block. -/
abbrev rcC (r : Rec) : Array Value := #[.int .u64 r.1, .int .i64 r.2.1, .string r.2.2]
abbrev rcV (r : Rec) : Value := .agg (rcC r)
abbrev rcZ : Array Value := #[.int .u64 0, .int .i64 0, .string ⟨#[]⟩]
abbrev rcO : Obj := .cells rcZ 175
theorem info175 : ∃ i, Tryz.prog.info? 175 = some i ∧ i.zero = some (.agg rcZ) ∧ i.size = 3 ∧ i.bytes = 32 := by
  obtain ⟨i, h1, h2, h3, h4⟩ := info_parts (show (Tryz.prog.info? 175).map (fun i => (i.zero, i.size, i.bytes)) = some (some (.agg rcZ), 3, 32) by kernel_rfl)
  exact ⟨i, h1, h2, h3, h4⟩
theorem Mem.swap {W w : World} {x y : Nat × Array Value × Nat} {l : List (Nat × Array Value × Nat)} {r : List (Nat × Value × Nat × List Value)} (h : Mem W w (x :: y :: l) r) : Mem W w (y :: x :: l) r := by
  have hm : ∀ u, u ∈ y :: x :: l → u ∈ x :: y :: l := fun u hu => by simp only [List.mem_cons] at hu ⊢; rcases hu with h | h | h; exact .inr (.inl h); exact .inl h; exact .inr (.inr h)
  refine ⟨fun u hu => h.cel u (hm u hu), ?_, fun u hu => h.typ u (hm u hu), fun u hu => h.big u (hm u hu), h.own, h.row, h.below⟩
  have := h.nod
  simp only [List.map_cons, List.nodup_cons, List.mem_cons, not_or] at this ⊢
  exact ⟨⟨fun e => this.1.1 e.symm, this.2.1⟩, this.1.2, this.2.2⟩
theorem FT.over {w : World} {B g t : Nat} {v : Value} {F : List ByteArray} {cs : Array Value} (h : FT w B v F) (k : w.heap[g]? = some (.cells cs t (0, 0))) (ht : t ≠ 9) (cs' : Array Value) : FT (w.setRow g cs') B v F :=
  h.keep fun x cur _ hx => setRow_other w g x cs' fun e => by
    subst e
    have := hx.symm.trans k
    simp only [Option.some.injEq, Obj.cells.injEq] at this
    exact ht this.2.1.symm
theorem owns_cap {w : World} {B n c sz e : Nat} {q : Option Addr} {xs : List Value} (h : w.ownsRow B e sz (.slice q n c) n xs) : (q = none ∨ ∃ g, q = some ⟨g, 0, none⟩) ∧ n ≤ c := by
  rcases h.2 with ⟨e1, e2⟩ | ⟨g, cap, cur, e1, _, _, h3, _⟩
  · simp only [Value.slice.injEq] at e1
    exact ⟨.inl e1.1, by omega⟩
  · simp only [Value.slice.injEq, true_and] at e1
    exact ⟨.inr ⟨g, e1.1⟩, by omega⟩
theorem owns_over {w : World} {B n size g : Nat} {e t : TypeId} {v : Value} {xs : List Value} {c : Array Value} (h : w.ownsRow B e size v n xs) (hp : w.heap[g]? = some (.cells c t (0, 0))) (hne : e ≠ t) (cs : Array Value) : (w.setRow g cs).ownsRow B e size v n xs :=
  owns_same h fun x hx => setRow_other w g x cs fun e => not_at h hp hne (by rw [hx, e])



theorem Touch.trans' {a b c : World} {S S' : Nat → Prop} (h : Touch a b S) (k : Touch b c S') (hS : ∀ x, x < a.heap.size → S' x → S x) : Touch a c S :=
  ⟨k.os.trans h.os, k.tape.trans h.tape, k.output.trans h.output, Nat.le_trans h.size k.size, fun x hx hn => (k.block x (Nat.lt_of_lt_of_le hx h.size) (fun e => hn (hS x hx e))).trans (h.block x hx hn)⟩
/-- Bytes put into a machine's memory. -/
theorem MS.put {W W' : World} {B z : Nat} {m : Mc} {p : Pt} {D : List UInt8} {M : List Int} (K : MS W B z m p) (h : PutAt W W' B z 73 m.dv m.mv m.E D M) : MS W' B z m { p with D := D, M := M } ∧ Touch W W' (Ow m z) := by
  have nb : ∀ (g : Nat) (t : TypeId) (cs : Array Value), W.heap[g]? = some (.cells cs t (0, 0)) → t ≠ 5 → t ≠ 22 → W'.heap[g]? = W.heap[g]? := fun g t cs hg h5 h22 =>
    h.t.block g (Array.getElem?_eq_some_iff.1 hg).1 fun hS => by
      rcases hS with hS | hS
      · exact not_at K.d hg (fun x => h5 x.symm) hS.symm
      · exact not_at K.mm hg (fun x => h22 x.symm) hS.symm
  refine ⟨⟨(nb z 42 _ K.box (by decide) (by decide)).trans K.box, K.big, K.fr.keep fun g cur _ hg => nb g 9 cur hg (by decide) (by decide), h.d, h.m, owns_same K.o fun g hg => ?_⟩, h.t.mono fun k _ hk => ?_⟩
  · obtain ⟨cur, hc⟩ := owns_block K.o hg
    exact nb g 175 cur hc (by decide) (by decide)
  · rcases hk with hk | hk
    · exact .inr (.inl hk)
    · exact .inr (.inr (.inl hk))
theorem Did.put {W W' : World} {B z : Nat} {m : Mc} {p : Pt} {D : List UInt8} {M : List Int} (K : MS W B z m p) (h : PutAt W W' B z 73 m.dv m.mv m.E D M) : Did W W' B z m m { p with D := D, M := M } := by
  have e : m.b.at m.b.fp p.F.length m.b.fc = m.b := by rw [← K.len]; rfl
  refine ⟨m.b.fp, m.b.fc, m.dv, m.mv, m.ov, ?_, (K.put h).2, ?_⟩
  · show MS W' B z { m with b := m.b.at m.b.fp p.F.length m.b.fc } { p with D := D, M := M }
    rw [e]
    exact (K.put h).1
  · show ∀ k, Ow { m with b := m.b.at m.b.fp p.F.length m.b.fc } z k → _
    rw [e]
    exact fun k hk => .inl hk
theorem Did.before {W w W' : World} {B z : Nat} {m r : Mc} {p : Pt} (h : Did w W' B z m r p) (ht : Touch W w (Ow m z)) : Did W W' B z m r p := by
  obtain ⟨q, c, dv, mv, ov, h1, h2, h3⟩ := h
  exact ⟨q, c, dv, mv, ov, h1, ht.trans h2, fun k hk => (h3 k hk).imp id (Nat.le_trans ht.size)⟩
end Go.Proofs.YtjohcpokmdofkaaGreatDoor
