/- BusRecords: the looks that came in; a machine with its records numbered from one number on. -/
import Derived.Test.YtnedhjaphfjdmaaMA
import Derived.Test.YtnedhjaphfjdmaaBX
namespace Go.Proofs.Ytnedhjaphfjdmaa
open Go.RowKit Go.Deep Go.Joins
/-- A look: where, how many bytes, which number, or a read. -/
abbrev Lk := Int × Int × Int × Bool
def lkL (r : Lk) : List Value := [.int .u64 r.1, .int .i64 r.2.1, .int .u64 r.2.2.1, .bool r.2.2.2]
def lkR (L : List Lk) : List Value := (L.map lkL).flatten
theorem lkR_length (L : List Lk) : (lkR L).length = L.length * 4 := by
  induction L with
  | nil => rfl
  | cons a L ih =>
    have e : lkR (a :: L) = lkL a ++ lkR L := by unfold lkR; simp
    rw [e, List.length_append, ih]
    simp [lkL]
    omega
theorem lkR_get (L : List Lk) : ∀ (k : Nat) (hk : k < L.length) (j : Nat), j < 4 → (lkR L)[4 * k + j]? = (lkL L[k])[j]? := by
  induction L with
  | nil => intro k hk; cases hk
  | cons r L ih =>
    intro k hk j hj
    have e : lkR (r :: L) = lkL r ++ lkR L := by unfold lkR; simp
    rw [e]
    cases k with
    | zero =>
      rw [List.getElem?_append_left (by simp [lkL]; omega)]
      simp
    | succ k =>
      rw [List.getElem?_append_right (by simp [lkL]; omega)]
      rw [show 4 * (k + 1) + j - (lkL r).length = 4 * k + j by simp [lkL]; omega, ih k (by simpa using hk) j hj]
      simp
theorem size52 : (Try.prog.info? 52).map (·.size) = some 4 := by kernel_rfl
theorem run_idx4 (w : World) (g off n c j : Nat) (hj : j < n) : (Instr.indexAt 43 (.slice (some ⟨g, off, none⟩) n c) (.int .i64 (j : Int))).run Try.prog w = .ok (.pointer (some ⟨g, off + j * 4, none⟩)) w := by
  have hs := run_sizeOf 52 4 w size52
  simp [Instr.indexAt, run_underlying Try.underlying43, asIntOf, hs, hj, Sem.run_bind, Result.andThen, add_lit]
theorem look_at {W : World} {q : Option Addr} {c : Nat} {L : List Lk} (h : Reads W (.slice q L.length c) 4 L.length (lkR L)) (h0 : 0 < L.length) : ∃ g off, q = some ⟨g, off, none⟩ ∧ ∀ j (hj : j < L.length), ∀ w, Below W.heap.size W w → (Instr.loadAt 52 (.pointer (some ⟨g, off + j * 4, none⟩))).run Try.prog w = .ok (.agg (lkC L[j].1 L[j].2.1 L[j].2.2.1 L[j].2.2.2)) w := by
  obtain ⟨g, off, cap, e, _, _, hg, hc⟩ := Reads.at h (by omega)
  simp only [Value.slice.injEq] at e
  refine ⟨g, off, e.1, fun j hj w hb => run_load_cells w g (off + j * 4) 52 (lkL L[j]) _ Try.underlying52 rfl size52 fun i v hv => ?_⟩
  have hi : i < 4 := by have := (List.getElem?_eq_some_iff.1 hv).1; simpa [lkL] using this
  have k := hc (4 * j + i) v (by rw [lkR_get L j hj i hi]; exact hv)
  rw [show off + j * 4 + i = off + (4 * j + i) by omega]
  exact (hb.cell (p := ⟨g, off + (4 * j + i), none⟩) hg).trans k
/-- The records' numbers are those from f on, none is empty, and n is the next one. -/
def Nums (f n : Int) (O : List Rec) : Prop := n = IntKind.u64.wrap (f + O.length) ∧ ∀ k (h : k < O.length), O[k].1 = IntKind.u64.wrap (f + k) ∧ O[k].2.2.size ≠ 0
theorem wrap_u (n : Int) : IntKind.u64.wrap n = n % 18446744073709551616 := rfl
theorem Nums.grown {f : Int} {m m' : Mc} {p p' : Pt} (h : Nums f m.nxt p.O) (g : Grown m p m' p') : Nums f m'.nxt p'.O := by
  rcases g.o with ⟨e1, e2⟩ | ⟨d, s, e1, hs, e2⟩
  · rw [e1, e2]; exact h
  · obtain ⟨h1, h2⟩ := h
    rw [e1, e2]
    refine ⟨?_, fun k hk => ?_⟩
    · rw [h1]
      simp only [wrap_u, List.length_append, List.length_cons, List.length_nil]
      omega
    · by_cases hl : k < p.O.length
      · rw [List.getElem_append_left hl]
        exact h2 k hl
      · have : k = p.O.length := by simp at hk; omega
        subst this
        rw [List.getElem_append_right (by omega)]
        have e : ([((m.nxt, d, s) : Rec)])[p.O.length - p.O.length]'(by simp) = (m.nxt, d, s) := by simp
        rw [e]
        exact ⟨h1, hs⟩
theorem POk.on {m : Mc} {p : Pt} (h : POk m p) (n : Nat) (q : Option Addr) (c : Nat) (dv mv ov : Value) : POk (atM m n q c dv mv ov) p := ⟨⟨h.bd.addr, h.bd.nicA, h.bd.sector⟩, h.c, h.fz, h.fl, h.dl, h.ml⟩
structure RS (W w : World) (z : Nat) (f : Int) (n : Nat) (r : Mc) (q : Pt) : Prop where
  ms : MS w W.heap.size z r q
  below : Below W.heap.size W w
  ok : POk r q
  nums : Nums f r.nxt q.O
  few : q.O.length ≤ n
theorem RS.next {W w w' : World} {z n : Nat} {f : Int} {r : Mc} {q : Pt} (h : RS W w z f n r q) (hb : Below w.heap.size w w') : RS W w' z f n r q := ⟨h.ms.next hb, below_then h.below hb, h.ok, h.nums, h.few⟩
theorem RS.shape {W w : World} {z n : Nat} {f : Int} {r : Mc} {q : Pt} (h : RS W w z f n r q) : ∃ a c, r.ov = .slice a q.O.length c := by
  obtain ⟨a, c, e⟩ := owns_shape h.ms.o
  exact ⟨a, c, e⟩
theorem RS.m_o {W w : World} {z n c l : Nat} {f : Int} {r : Mc} {q : Pt} {a : Option Addr} (h : RS W w z f n r q) (e : r.ov = .slice a l c) : w.cell? ⟨z, 78, none⟩ = some (.slice a l c) := e ▸ h.ms.box.cell_t 5
theorem RS.m_n {W w : World} {z n : Nat} {f : Int} {r : Mc} {q : Pt} (h : RS W w z f n r q) : w.cell? ⟨z, 77, none⟩ = some (.int .u64 r.nxt) := h.ms.box.cell_t 4
/-- Behind a look; a row of records that lies behind the machine's parts is as it was. -/
theorem RS.did {W w w' : World} {z n : Nat} {f : Int} {r r' : Mc} {q q' : Pt} (h : RS W w z f n r q) (d : Did w w' W.heap.size z r r' q') (g : Grown r q r' q') : ∃ r2, RS W w' z f (n + 1) r2 q' ∧ ((q'.O = q.O) ∨ ∃ x, q'.O = q.O ++ [x]) ∧ ∀ (B : Nat) (v : Value) (O : List Rec), w.ownsRow B 62 3 v O.length (oC O) → (∀ k, Ow r z k → k < B) → w'.ownsRow B 62 3 v O.length (oC O) := by
  obtain ⟨a, c, dv, mv, ov, hm, ht, _⟩ := d
  have ho : (q'.O = q.O) ∨ ∃ x, q'.O = q.O ++ [x] := by
    rcases g.o with ⟨e, _⟩ | ⟨d, s, e, _⟩
    · exact .inl e
    · exact .inr ⟨_, e⟩
  refine ⟨_, ⟨hm, Touch.below h.below ht (fun k hk => (h.ms.lt hk).1) h.below.size, g.ok.on _ _ _ _ _ _, show Nums f r'.nxt q'.O from h.nums.grown g, ?_⟩, ho, fun B v O k hk => owns_same k fun b hb => ?_⟩
  · have := h.few
    rcases ho with e | ⟨x, e⟩
    · rw [e]; omega
    · rw [e]; simp; omega
  · obtain ⟨h1, h2⟩ := owns_lt k hb
    exact ht.block b h2 fun hS => by have := hk b hS; omega
theorem MS.nil {w : World} {B z : Nat} {m : Mc} {p : Pt} (h : MS w B z m p) : MS (w.setRow z (mcC { m with ov := .slice none 0 0 })) B z { m with ov := .slice none 0 0 } { p with O := [] } :=
  ⟨h.box.put rfl, h.big, h.fr.over h.box (by decide) _, owns_over h.d h.box (by decide) _, owns_over h.mm h.box (by decide) _, World.ownsRow_nil _ _ _ _⟩
theorem Mem.m0 {W w : World} {k : Nat} {m : Mc} {l : List (Nat × Array Value × Nat)} {r : List (Nat × Value × Nat × List Value)} (h : Mem W w ((k, mcC m, 42) :: l) r) : MBox w k m := h.g0
end Go.Proofs.Ytnedhjaphfjdmaa
