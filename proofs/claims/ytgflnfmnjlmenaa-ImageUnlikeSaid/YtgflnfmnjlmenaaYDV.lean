/- The memory of a function, block by block. -/
import Derived.Test.YtgflnfmnjlmenaaYDLZ
namespace Go.Proofs.Ytgflnfmnjlmenaa
open Go.RowKit Go.Deep Go.Joins
/-- The memory of a function: its own blocks, each at its place, and its own rows. -/
structure Mem (W wx : World) (l : List (Nat × Array Value × Nat)) (r : List (Nat × Value × Nat × List Value)) : Prop where
  cel : ∀ x ∈ l, wx.heap[x.1]? = some (.cells x.2.1 x.2.2 (0, 0))
  nod : (l.map (·.1)).Nodup
  typ : ∀ x ∈ l, 33 ≤ x.2.2
  big : ∀ x ∈ l, W.heap.size ≤ x.1
  own : ∀ y ∈ r, wx.ownsRow W.heap.size y.1 1 y.2.1 y.2.2.1 y.2.2.2
  row : ∀ y ∈ r, y.1 < 33
  below : Below W.heap.size W wx
theorem Mem.start (W : World) : Mem W W [] [] := ⟨by simp, by simp, by simp, by simp, by simp, by simp, Below.refl _ _⟩
theorem Mem.next {W w w' : World} {l : List (Nat × Array Value × Nat)} {r : List (Nat × Value × Nat × List Value)} (h : Mem W w l r) (j : Below w.heap.size w w') : Mem W w' l r :=
  ⟨fun x hx => (j.block _ ((Array.getElem?_eq_some_iff.1 (h.cel x hx)).1)).trans (h.cel x hx), h.nod, h.typ, h.big, fun y hy => owns_below (h.own y hy) j, h.row, below_then h.below j⟩
theorem Mem.new {W w : World} {l : List (Nat × Array Value × Nat)} {r : List (Nat × Value × Nat × List Value)} (h : Mem W w l r) (cs : Array Value) (t : Nat) (ht : 33 ≤ t) : Mem W (w.alloc (.cells cs t)) ((w.heap.size, cs, t) :: l) r := by
  have k := h.next (below1 w (.cells cs t))
  refine ⟨fun x hx => ?_, ?_, fun x hx => ?_, fun x hx => ?_, k.own, h.row, k.below⟩
  · rcases List.mem_cons.1 hx with rfl | hx
    · exact heap_alloc_last w _
    · exact k.cel x hx
  · rw [List.map_cons, List.nodup_cons]
    refine ⟨fun hm => ?_, h.nod⟩
    obtain ⟨x, hx, e⟩ := List.mem_map.1 hm
    have hlt := (Array.getElem?_eq_some_iff.1 (h.cel x hx)).1
    omega
  · rcases List.mem_cons.1 hx with rfl | hx
    · exact ht
    · exact h.typ x hx
  · rcases List.mem_cons.1 hx with rfl | hx
    · exact h.below.size
    · exact h.big x hx
theorem Mem.addrow {W w : World} {l : List (Nat × Array Value × Nat)} {r : List (Nat × Value × Nat × List Value)} (h : Mem W w l r) {e : Nat} {B : Nat} {v : Value} {n : Nat} {xs : List Value} (ho : w.ownsRow B e 1 v n xs) (hB : W.heap.size ≤ B) (he : e < 33) : Mem W w l ((e, v, n, xs) :: r) :=
  ⟨h.cel, h.nod, h.typ, h.big, fun y hy => by
    rcases List.mem_cons.1 hy with rfl | hy
    · exact owns_base ho hB
    · exact h.own y hy, fun y hy => by
    rcases List.mem_cons.1 hy with rfl | hy
    · exact he
    · exact h.row y hy, h.below⟩
theorem Mem.set {W w w' : World} {a l : List (Nat × Array Value × Nat)} {k t : Nat} {cs cs' : Array Value} {r : List (Nat × Value × Nat × List Value)} (h : Mem W w (a ++ (k, cs, t) :: l) r) (hw : w' = w.setRow k cs') : Mem W w' (a ++ (k, cs', t) :: l) r := by
  subst hw
  have hk := h.cel (k, cs, t) (by simp)
  have hn := h.nod
  refine ⟨fun x hx => ?_, by simpa using hn, fun x hx => ?_, fun x hx => ?_, fun y hy => ?_, h.row, below_setRow h.below (h.big (k, cs, t) (by simp)) _⟩
  · by_cases e : x.1 = k
    · have hx2 : x = (k, cs', t) := by
        rw [List.map_append, List.map_cons] at hn
        rcases List.mem_append.1 hx with hx | hx
        · exfalso
          have := (List.nodup_append.1 hn).2.2 x.1 (List.mem_map_of_mem hx) k (by simp)
          exact this e
        · rcases List.mem_cons.1 hx with rfl | hx
          · rfl
          · exfalso
            have := (List.nodup_cons.1 (List.nodup_append.1 hn).2.1).1
            exact this (List.mem_map.2 ⟨x, hx, e⟩)
      subst hx2
      exact setRow_heap w k cs cs' t (0, 0) hk
    · refine (setRow_other w k x.1 cs' e).trans (h.cel x ?_)
      rcases List.mem_append.1 hx with hx | hx
      · exact List.mem_append_left _ hx
      · rcases List.mem_cons.1 hx with rfl | hx
        · exact absurd rfl e
        · exact List.mem_append_right _ (List.mem_cons_of_mem _ hx)
  · rcases List.mem_append.1 hx with hx | hx
    · exact h.typ x (List.mem_append_left _ hx)
    · rcases List.mem_cons.1 hx with rfl | hx
      · exact h.typ (k, cs, t) (by simp)
      · exact h.typ x (List.mem_append_right _ (List.mem_cons_of_mem _ hx))
  · rcases List.mem_append.1 hx with hx | hx
    · exact h.big x (List.mem_append_left _ hx)
    · rcases List.mem_cons.1 hx with rfl | hx
      · exact h.big (k, cs, t) (by simp)
      · exact h.big x (List.mem_append_right _ (List.mem_cons_of_mem _ hx))
  · have ht := h.typ (k, cs, t) (by simp)
    have hr := h.row y hy
    exact owns_touch (h.own y hy) ((Touch.refl w (fun g => g = k)).setRow (.inl rfl) cs') (fun g' e1 e2 => not_at (h.own y hy) hk (fun e3 => absurd (show (t : Nat) < 33 from (show y.1 = t from e3) ▸ hr) (Nat.not_lt.2 ht)) (by rw [e1, e2]))
theorem Mem.g0 {W w : World} {k t : Nat} {cs : Array Value} {l : List (Nat × Array Value × Nat)} {r : List (Nat × Value × Nat × List Value)} (h : Mem W w ((k, cs, t) :: l) r) : w.heap[k]? = some (.cells cs t (0, 0)) := h.cel (k, cs, t) (by simp)
theorem Mem.b0 {W w : World} {k : Nat} {b : Bd} {l : List (Nat × Array Value × Nat)} {r : List (Nat × Value × Nat × List Value)} (h : Mem W w ((k, bdC b, 35) :: l) r) : Box w k b := h.cel (k, bdC b, 35) (by simp)
theorem Mem.p0 {W w w' : World} {k t : Nat} {cs cs' : Array Value} {l : List (Nat × Array Value × Nat)} {r : List (Nat × Value × Nat × List Value)} (h : Mem W w ((k, cs, t) :: l) r) (hw : w' = w.setRow k cs') : Mem W w' ((k, cs', t) :: l) r := Mem.set (a := []) h hw
theorem Mem.g1 {W w : World} {x0 : Nat × Array Value × Nat} {k t : Nat} {cs : Array Value} {l : List (Nat × Array Value × Nat)} {r : List (Nat × Value × Nat × List Value)} (h : Mem W w (x0 :: (k, cs, t) :: l) r) : w.heap[k]? = some (.cells cs t (0, 0)) := h.cel (k, cs, t) (by simp)
theorem Mem.b1 {W w : World} {x0 : Nat × Array Value × Nat} {k : Nat} {b : Bd} {l : List (Nat × Array Value × Nat)} {r : List (Nat × Value × Nat × List Value)} (h : Mem W w (x0 :: (k, bdC b, 35) :: l) r) : Box w k b := h.cel (k, bdC b, 35) (by simp)
theorem Mem.p1 {W w w' : World} {x0 : Nat × Array Value × Nat} {k t : Nat} {cs cs' : Array Value} {l : List (Nat × Array Value × Nat)} {r : List (Nat × Value × Nat × List Value)} (h : Mem W w (x0 :: (k, cs, t) :: l) r) (hw : w' = w.setRow k cs') : Mem W w' (x0 :: (k, cs', t) :: l) r := Mem.set (a := [x0]) h hw
theorem Mem.g2 {W w : World} {x0 x1 : Nat × Array Value × Nat} {k t : Nat} {cs : Array Value} {l : List (Nat × Array Value × Nat)} {r : List (Nat × Value × Nat × List Value)} (h : Mem W w (x0 :: x1 :: (k, cs, t) :: l) r) : w.heap[k]? = some (.cells cs t (0, 0)) := h.cel (k, cs, t) (by simp)
theorem Mem.b2 {W w : World} {x0 x1 : Nat × Array Value × Nat} {k : Nat} {b : Bd} {l : List (Nat × Array Value × Nat)} {r : List (Nat × Value × Nat × List Value)} (h : Mem W w (x0 :: x1 :: (k, bdC b, 35) :: l) r) : Box w k b := h.cel (k, bdC b, 35) (by simp)
theorem Mem.p2 {W w w' : World} {x0 x1 : Nat × Array Value × Nat} {k t : Nat} {cs cs' : Array Value} {l : List (Nat × Array Value × Nat)} {r : List (Nat × Value × Nat × List Value)} (h : Mem W w (x0 :: x1 :: (k, cs, t) :: l) r) (hw : w' = w.setRow k cs') : Mem W w' (x0 :: x1 :: (k, cs', t) :: l) r := Mem.set (a := [x0, x1]) h hw
theorem Mem.g3 {W w : World} {x0 x1 x2 : Nat × Array Value × Nat} {k t : Nat} {cs : Array Value} {l : List (Nat × Array Value × Nat)} {r : List (Nat × Value × Nat × List Value)} (h : Mem W w (x0 :: x1 :: x2 :: (k, cs, t) :: l) r) : w.heap[k]? = some (.cells cs t (0, 0)) := h.cel (k, cs, t) (by simp)
theorem Mem.b3 {W w : World} {x0 x1 x2 : Nat × Array Value × Nat} {k : Nat} {b : Bd} {l : List (Nat × Array Value × Nat)} {r : List (Nat × Value × Nat × List Value)} (h : Mem W w (x0 :: x1 :: x2 :: (k, bdC b, 35) :: l) r) : Box w k b := h.cel (k, bdC b, 35) (by simp)
theorem Mem.p3 {W w w' : World} {x0 x1 x2 : Nat × Array Value × Nat} {k t : Nat} {cs cs' : Array Value} {l : List (Nat × Array Value × Nat)} {r : List (Nat × Value × Nat × List Value)} (h : Mem W w (x0 :: x1 :: x2 :: (k, cs, t) :: l) r) (hw : w' = w.setRow k cs') : Mem W w' (x0 :: x1 :: x2 :: (k, cs', t) :: l) r := Mem.set (a := [x0, x1, x2]) h hw
theorem Mem.g4 {W w : World} {x0 x1 x2 x3 : Nat × Array Value × Nat} {k t : Nat} {cs : Array Value} {l : List (Nat × Array Value × Nat)} {r : List (Nat × Value × Nat × List Value)} (h : Mem W w (x0 :: x1 :: x2 :: x3 :: (k, cs, t) :: l) r) : w.heap[k]? = some (.cells cs t (0, 0)) := h.cel (k, cs, t) (by simp)
theorem Mem.b4 {W w : World} {x0 x1 x2 x3 : Nat × Array Value × Nat} {k : Nat} {b : Bd} {l : List (Nat × Array Value × Nat)} {r : List (Nat × Value × Nat × List Value)} (h : Mem W w (x0 :: x1 :: x2 :: x3 :: (k, bdC b, 35) :: l) r) : Box w k b := h.cel (k, bdC b, 35) (by simp)
theorem Mem.p4 {W w w' : World} {x0 x1 x2 x3 : Nat × Array Value × Nat} {k t : Nat} {cs cs' : Array Value} {l : List (Nat × Array Value × Nat)} {r : List (Nat × Value × Nat × List Value)} (h : Mem W w (x0 :: x1 :: x2 :: x3 :: (k, cs, t) :: l) r) (hw : w' = w.setRow k cs') : Mem W w' (x0 :: x1 :: x2 :: x3 :: (k, cs', t) :: l) r := Mem.set (a := [x0, x1, x2, x3]) h hw
theorem Mem.g5 {W w : World} {x0 x1 x2 x3 x4 : Nat × Array Value × Nat} {k t : Nat} {cs : Array Value} {l : List (Nat × Array Value × Nat)} {r : List (Nat × Value × Nat × List Value)} (h : Mem W w (x0 :: x1 :: x2 :: x3 :: x4 :: (k, cs, t) :: l) r) : w.heap[k]? = some (.cells cs t (0, 0)) := h.cel (k, cs, t) (by simp)
theorem Mem.b5 {W w : World} {x0 x1 x2 x3 x4 : Nat × Array Value × Nat} {k : Nat} {b : Bd} {l : List (Nat × Array Value × Nat)} {r : List (Nat × Value × Nat × List Value)} (h : Mem W w (x0 :: x1 :: x2 :: x3 :: x4 :: (k, bdC b, 35) :: l) r) : Box w k b := h.cel (k, bdC b, 35) (by simp)
theorem Mem.p5 {W w w' : World} {x0 x1 x2 x3 x4 : Nat × Array Value × Nat} {k t : Nat} {cs cs' : Array Value} {l : List (Nat × Array Value × Nat)} {r : List (Nat × Value × Nat × List Value)} (h : Mem W w (x0 :: x1 :: x2 :: x3 :: x4 :: (k, cs, t) :: l) r) (hw : w' = w.setRow k cs') : Mem W w' (x0 :: x1 :: x2 :: x3 :: x4 :: (k, cs', t) :: l) r := Mem.set (a := [x0, x1, x2, x3, x4]) h hw
theorem Mem.g6 {W w : World} {x0 x1 x2 x3 x4 x5 : Nat × Array Value × Nat} {k t : Nat} {cs : Array Value} {l : List (Nat × Array Value × Nat)} {r : List (Nat × Value × Nat × List Value)} (h : Mem W w (x0 :: x1 :: x2 :: x3 :: x4 :: x5 :: (k, cs, t) :: l) r) : w.heap[k]? = some (.cells cs t (0, 0)) := h.cel (k, cs, t) (by simp)
theorem Mem.b6 {W w : World} {x0 x1 x2 x3 x4 x5 : Nat × Array Value × Nat} {k : Nat} {b : Bd} {l : List (Nat × Array Value × Nat)} {r : List (Nat × Value × Nat × List Value)} (h : Mem W w (x0 :: x1 :: x2 :: x3 :: x4 :: x5 :: (k, bdC b, 35) :: l) r) : Box w k b := h.cel (k, bdC b, 35) (by simp)
theorem Mem.p6 {W w w' : World} {x0 x1 x2 x3 x4 x5 : Nat × Array Value × Nat} {k t : Nat} {cs cs' : Array Value} {l : List (Nat × Array Value × Nat)} {r : List (Nat × Value × Nat × List Value)} (h : Mem W w (x0 :: x1 :: x2 :: x3 :: x4 :: x5 :: (k, cs, t) :: l) r) (hw : w' = w.setRow k cs') : Mem W w' (x0 :: x1 :: x2 :: x3 :: x4 :: x5 :: (k, cs', t) :: l) r := Mem.set (a := [x0, x1, x2, x3, x4, x5]) h hw
theorem Mem.g7 {W w : World} {x0 x1 x2 x3 x4 x5 x6 : Nat × Array Value × Nat} {k t : Nat} {cs : Array Value} {l : List (Nat × Array Value × Nat)} {r : List (Nat × Value × Nat × List Value)} (h : Mem W w (x0 :: x1 :: x2 :: x3 :: x4 :: x5 :: x6 :: (k, cs, t) :: l) r) : w.heap[k]? = some (.cells cs t (0, 0)) := h.cel (k, cs, t) (by simp)
theorem Mem.b7 {W w : World} {x0 x1 x2 x3 x4 x5 x6 : Nat × Array Value × Nat} {k : Nat} {b : Bd} {l : List (Nat × Array Value × Nat)} {r : List (Nat × Value × Nat × List Value)} (h : Mem W w (x0 :: x1 :: x2 :: x3 :: x4 :: x5 :: x6 :: (k, bdC b, 35) :: l) r) : Box w k b := h.cel (k, bdC b, 35) (by simp)
theorem Mem.p7 {W w w' : World} {x0 x1 x2 x3 x4 x5 x6 : Nat × Array Value × Nat} {k t : Nat} {cs cs' : Array Value} {l : List (Nat × Array Value × Nat)} {r : List (Nat × Value × Nat × List Value)} (h : Mem W w (x0 :: x1 :: x2 :: x3 :: x4 :: x5 :: x6 :: (k, cs, t) :: l) r) (hw : w' = w.setRow k cs') : Mem W w' (x0 :: x1 :: x2 :: x3 :: x4 :: x5 :: x6 :: (k, cs', t) :: l) r := Mem.set (a := [x0, x1, x2, x3, x4, x5, x6]) h hw
theorem Mem.g8 {W w : World} {x0 x1 x2 x3 x4 x5 x6 x7 : Nat × Array Value × Nat} {k t : Nat} {cs : Array Value} {l : List (Nat × Array Value × Nat)} {r : List (Nat × Value × Nat × List Value)} (h : Mem W w (x0 :: x1 :: x2 :: x3 :: x4 :: x5 :: x6 :: x7 :: (k, cs, t) :: l) r) : w.heap[k]? = some (.cells cs t (0, 0)) := h.cel (k, cs, t) (by simp)
theorem Mem.b8 {W w : World} {x0 x1 x2 x3 x4 x5 x6 x7 : Nat × Array Value × Nat} {k : Nat} {b : Bd} {l : List (Nat × Array Value × Nat)} {r : List (Nat × Value × Nat × List Value)} (h : Mem W w (x0 :: x1 :: x2 :: x3 :: x4 :: x5 :: x6 :: x7 :: (k, bdC b, 35) :: l) r) : Box w k b := h.cel (k, bdC b, 35) (by simp)
theorem Mem.p8 {W w w' : World} {x0 x1 x2 x3 x4 x5 x6 x7 : Nat × Array Value × Nat} {k t : Nat} {cs cs' : Array Value} {l : List (Nat × Array Value × Nat)} {r : List (Nat × Value × Nat × List Value)} (h : Mem W w (x0 :: x1 :: x2 :: x3 :: x4 :: x5 :: x6 :: x7 :: (k, cs, t) :: l) r) (hw : w' = w.setRow k cs') : Mem W w' (x0 :: x1 :: x2 :: x3 :: x4 :: x5 :: x6 :: x7 :: (k, cs', t) :: l) r := Mem.set (a := [x0, x1, x2, x3, x4, x5, x6, x7]) h hw
theorem Mem.g9 {W w : World} {x0 x1 x2 x3 x4 x5 x6 x7 x8 : Nat × Array Value × Nat} {k t : Nat} {cs : Array Value} {l : List (Nat × Array Value × Nat)} {r : List (Nat × Value × Nat × List Value)} (h : Mem W w (x0 :: x1 :: x2 :: x3 :: x4 :: x5 :: x6 :: x7 :: x8 :: (k, cs, t) :: l) r) : w.heap[k]? = some (.cells cs t (0, 0)) := h.cel (k, cs, t) (by simp)
theorem Mem.b9 {W w : World} {x0 x1 x2 x3 x4 x5 x6 x7 x8 : Nat × Array Value × Nat} {k : Nat} {b : Bd} {l : List (Nat × Array Value × Nat)} {r : List (Nat × Value × Nat × List Value)} (h : Mem W w (x0 :: x1 :: x2 :: x3 :: x4 :: x5 :: x6 :: x7 :: x8 :: (k, bdC b, 35) :: l) r) : Box w k b := h.cel (k, bdC b, 35) (by simp)
theorem Mem.p9 {W w w' : World} {x0 x1 x2 x3 x4 x5 x6 x7 x8 : Nat × Array Value × Nat} {k t : Nat} {cs cs' : Array Value} {l : List (Nat × Array Value × Nat)} {r : List (Nat × Value × Nat × List Value)} (h : Mem W w (x0 :: x1 :: x2 :: x3 :: x4 :: x5 :: x6 :: x7 :: x8 :: (k, cs, t) :: l) r) (hw : w' = w.setRow k cs') : Mem W w' (x0 :: x1 :: x2 :: x3 :: x4 :: x5 :: x6 :: x7 :: x8 :: (k, cs', t) :: l) r := Mem.set (a := [x0, x1, x2, x3, x4, x5, x6, x7, x8]) h hw
theorem Mem.r0 {W w : World} {e n : Nat} {v : Value} {xs : List Value} {l : List (Nat × Array Value × Nat)} {r : List (Nat × Value × Nat × List Value)} (h : Mem W w l ((e, v, n, xs) :: r)) : w.ownsRow W.heap.size e 1 v n xs := h.own (e, v, n, xs) (by simp)
theorem Mem.r1 {W w : World} {y0 : Nat × Value × Nat × List Value} {e n : Nat} {v : Value} {xs : List Value} {l : List (Nat × Array Value × Nat)} {r : List (Nat × Value × Nat × List Value)} (h : Mem W w l (y0 :: (e, v, n, xs) :: r)) : w.ownsRow W.heap.size e 1 v n xs := h.own (e, v, n, xs) (by simp)
theorem Mem.r2 {W w : World} {y0 y1 : Nat × Value × Nat × List Value} {e n : Nat} {v : Value} {xs : List Value} {l : List (Nat × Array Value × Nat)} {r : List (Nat × Value × Nat × List Value)} (h : Mem W w l (y0 :: y1 :: (e, v, n, xs) :: r)) : w.ownsRow W.heap.size e 1 v n xs := h.own (e, v, n, xs) (by simp)
theorem Mem.r3 {W w : World} {y0 y1 y2 : Nat × Value × Nat × List Value} {e n : Nat} {v : Value} {xs : List Value} {l : List (Nat × Array Value × Nat)} {r : List (Nat × Value × Nat × List Value)} (h : Mem W w l (y0 :: y1 :: y2 :: (e, v, n, xs) :: r)) : w.ownsRow W.heap.size e 1 v n xs := h.own (e, v, n, xs) (by simp)
theorem Mem.r4 {W w : World} {y0 y1 y2 y3 : Nat × Value × Nat × List Value} {e n : Nat} {v : Value} {xs : List Value} {l : List (Nat × Array Value × Nat)} {r : List (Nat × Value × Nat × List Value)} (h : Mem W w l (y0 :: y1 :: y2 :: y3 :: (e, v, n, xs) :: r)) : w.ownsRow W.heap.size e 1 v n xs := h.own (e, v, n, xs) (by simp)
theorem Mem.r5 {W w : World} {y0 y1 y2 y3 y4 : Nat × Value × Nat × List Value} {e n : Nat} {v : Value} {xs : List Value} {l : List (Nat × Array Value × Nat)} {r : List (Nat × Value × Nat × List Value)} (h : Mem W w l (y0 :: y1 :: y2 :: y3 :: y4 :: (e, v, n, xs) :: r)) : w.ownsRow W.heap.size e 1 v n xs := h.own (e, v, n, xs) (by simp)

end Go.Proofs.Ytgflnfmnjlmenaa
