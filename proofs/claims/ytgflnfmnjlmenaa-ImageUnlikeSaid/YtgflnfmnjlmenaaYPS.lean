/- The state of who interrupts, in memory. -/
import Derived.Test.YtgflnfmnjlmenaaYPA
namespace Go.Proofs.Ytgflnfmnjlmenaa.Pc
open Go.RowKit Go.Deep Go.Joins
/-- All of it are words of 32 bits. -/
structure Ok (h : Pl) : Prop where
  p0 : U32 h.p0
  p1 : U32 h.p1
  p2 : U32 h.p2
  p3 : U32 h.p3
  e0 : U32 h.e0
  e1 : U32 h.e1
  l0 : U32 h.l0
  l1 : U32 h.l1
  c : U32 h.c
abbrev plV (h : Pl) : Value := .agg (plC h)
abbrev plO (h : Pl) : Obj := .cells (plC h) 33
theorem plC_size (h : Pl) : (plC h).size = 9 := rfl
theorem plC_at (h : Pl) (k : Nat) : (plC h)[k]? = (plL h)[k]? := by unfold plC; rw [List.getElem?_toArray]
theorem plC_set (h g : Pl) (k : Nat) (v : Value) (ht : plL g = (plL h).set k v) : (plC h).setIfInBounds k v = plC g := by
  unfold plC
  rw [List.setIfInBounds_toArray, ht]
theorem pl_one (h : Pl) : (plC h).all (·.oneCell') = true := by
  unfold plC plL
  simp [Value.oneCell']
theorem size33 : (Try.prog.info? 33).map (·.size) = some 9 := by kernel_rfl
theorem size30 : (Try.prog.info? 30).map (·.size) = some 4 := by kernel_rfl
theorem size31 : (Try.prog.info? 31).map (·.size) = some 2 := by kernel_rfl
theorem size29 : (Try.prog.info? 29).map (·.size) = some 1 := by kernel_rfl

end Go.Proofs.Ytgflnfmnjlmenaa.Pc
namespace Go

end Go
namespace Go.Proofs.Ytgflnfmnjlmenaa.Pc
open Go.RowKit Go.Deep Go.Joins
/-- A block that holds this state. -/
def Box (w : World) (b : Nat) (h : Pl) : Prop := w.heap[b]? = some (plO h)
theorem Box.lt {w : World} {b : Nat} {h : Pl} (k : Box w b h) : b < w.heap.size := (Array.getElem?_eq_some_iff.1 k).1
theorem Box.next {w w' : World} {b : Nat} {h : Pl} (k : Box w b h) (j : Below w.heap.size w w') : Box w' b h := (j.block b k.lt).trans k
theorem Box.drew {w : World} {b : Nat} {h : Pl} (k : Box w b h) : Box w.drew b h := k
theorem Box.alloc {w : World} {b : Nat} {h : Pl} (k : Box w b h) (o : Obj) : Box (w.alloc o) b h := k.next ((Below.refl _ _).alloc (Nat.le_refl _) o)
theorem Box.new (w : World) (h : Pl) : Box (w.alloc (plO h)) w.heap.size h := heap_alloc_last w _
theorem Box.over {w : World} {b g : Nat} {h : Pl} (k : Box w b h) (hg : b ≠ g) (cs : Array Value) : Box (w.setRow g cs) b h := (setRow_other w g b cs hg).trans k
theorem Box.mine {w : World} {g : Nat} {old : Array Value} (k : w.heap[g]? = some (.cells old 33 (0, 0))) (h : Pl) : Box (w.setRow g (plC h)) g h := setRow_heap w g old (plC h) 33 (0, 0) k
theorem Box.load {w : World} {b : Nat} {h : Pl} (k : Box w b h) : (Instr.loadAt 33 (.pointer (some ⟨b, 0, none⟩))).run Try.prog w = .ok (plV h) w := by
  simp only [Instr.loadAt, Instr.sureAddr, Sem.run_bind, Sem.run_pure, Result.andThen]
  exact run_loadVar_row w b 33 33 (plC h) (0, 0) _ k Try.underlying33 rfl (by rw [size33, plC_size])
theorem Box.result {w : World} {b : Nat} {h : Pl} (k : Box w b h) : (loadVar 33 ⟨b, 0, none⟩).run Try.prog w = .ok (plV h) w :=
  run_loadVar_row w b 33 33 (plC h) (0, 0) _ k Try.underlying33 rfl (by rw [size33, plC_size])
theorem Box.load_prio {w : World} {b : Nat} {h : Pl} (k : Box w b h) : (Instr.loadAt 30 (.pointer (some ⟨b, 0, none⟩))).run Try.prog w = .ok (.agg #[.int .u32 h.p0, .int .u32 h.p1, .int .u32 h.p2, .int .u32 h.p3]) w :=
  run_load_rowAt w b 0 33 30 (plC h) [.int .u32 h.p0, .int .u32 h.p1, .int .u32 h.p2, .int .u32 h.p3] _ k Try.underlying30 rfl (by rw [size30]; rfl) fun j v hv => by
    rw [Nat.zero_add, plC_at]
    match j, hv with
    | 0, hv => exact hv
    | 1, hv => exact hv
    | 2, hv => exact hv
    | 3, hv => exact hv
    | j + 4, hv => simp at hv
theorem Box.load_level {w : World} {b : Nat} {h : Pl} (k : Box w b h) : (Instr.loadAt 31 (.pointer (some ⟨b, 6, none⟩))).run Try.prog w = .ok (.agg #[.int .u32 h.l0, .int .u32 h.l1]) w :=
  run_load_rowAt w b 6 33 31 (plC h) [.int .u32 h.l0, .int .u32 h.l1] _ k Try.underlying31 rfl (by rw [size31]; rfl) fun j v hv => by
    rw [plC_at]
    match j, hv with
    | 0, hv => exact hv
    | 1, hv => exact hv
    | j + 2, hv => simp at hv
theorem Box.cell {w : World} {b : Nat} {h : Pl} (k : Box w b h) (i : Nat) : w.cell? ⟨b, i, none⟩ = (plL h)[i]? := by
  rw [cell_of_row w b _ (plC h) 33 (0, 0) k, plC_at]
theorem Box.load_p0 {w : World} {b : Nat} {h : Pl} (k : Box w b h) : (Instr.loadAt 29 (.pointer (some ⟨b, 0, none⟩))).run Try.prog w = .ok (.int .u32 h.p0) w :=
  run_load_cell w b 0 29 33 (plC h) _ _ k Try.underlying29 rfl (plC_at h 0)
theorem Box.load_p1 {w : World} {b : Nat} {h : Pl} (k : Box w b h) : (Instr.loadAt 29 (.pointer (some ⟨b, 1, none⟩))).run Try.prog w = .ok (.int .u32 h.p1) w :=
  run_load_cell w b 1 29 33 (plC h) _ _ k Try.underlying29 rfl (plC_at h 1)
theorem Box.load_p2 {w : World} {b : Nat} {h : Pl} (k : Box w b h) : (Instr.loadAt 29 (.pointer (some ⟨b, 2, none⟩))).run Try.prog w = .ok (.int .u32 h.p2) w :=
  run_load_cell w b 2 29 33 (plC h) _ _ k Try.underlying29 rfl (plC_at h 2)
theorem Box.load_p3 {w : World} {b : Nat} {h : Pl} (k : Box w b h) : (Instr.loadAt 29 (.pointer (some ⟨b, 3, none⟩))).run Try.prog w = .ok (.int .u32 h.p3) w :=
  run_load_cell w b 3 29 33 (plC h) _ _ k Try.underlying29 rfl (plC_at h 3)
theorem Box.load_e0 {w : World} {b : Nat} {h : Pl} (k : Box w b h) : (Instr.loadAt 29 (.pointer (some ⟨b, 4, none⟩))).run Try.prog w = .ok (.int .u32 h.e0) w :=
  run_load_cell w b 4 29 33 (plC h) _ _ k Try.underlying29 rfl (plC_at h 4)
theorem Box.load_e1 {w : World} {b : Nat} {h : Pl} (k : Box w b h) : (Instr.loadAt 29 (.pointer (some ⟨b, 5, none⟩))).run Try.prog w = .ok (.int .u32 h.e1) w :=
  run_load_cell w b 5 29 33 (plC h) _ _ k Try.underlying29 rfl (plC_at h 5)
theorem Box.load_l0 {w : World} {b : Nat} {h : Pl} (k : Box w b h) : (Instr.loadAt 29 (.pointer (some ⟨b, 6, none⟩))).run Try.prog w = .ok (.int .u32 h.l0) w :=
  run_load_cell w b 6 29 33 (plC h) _ _ k Try.underlying29 rfl (plC_at h 6)
theorem Box.load_l1 {w : World} {b : Nat} {h : Pl} (k : Box w b h) : (Instr.loadAt 29 (.pointer (some ⟨b, 7, none⟩))).run Try.prog w = .ok (.int .u32 h.l1) w :=
  run_load_cell w b 7 29 33 (plC h) _ _ k Try.underlying29 rfl (plC_at h 7)
theorem Box.load_c {w : World} {b : Nat} {h : Pl} (k : Box w b h) : (Instr.loadAt 29 (.pointer (some ⟨b, 8, none⟩))).run Try.prog w = .ok (.int .u32 h.c) w :=
  run_load_cell w b 8 29 33 (plC h) _ _ k Try.underlying29 rfl (plC_at h 8)
theorem store_box (w : World) (b : Nat) (old : Array Value) (h : Pl) (k : w.heap[b]? = some (.cells old 33 (0, 0))) (ho : old.size = 9) : (Instr.storeAt 33 (.pointer (some ⟨b, 0, none⟩)) (plV h)).run Try.prog w = .ok () (w.setRow b (plC h)) := by
  simp only [Instr.storeAt, Instr.sureAddr, Sem.run_bind, Sem.run_pure, Result.andThen]
  exact run_storeVar_row w b 33 33 old (plC h) k (by rw [size33, plC_size]) (by rw [ho, plC_size]) (pl_one h)
def zeroP : Pl := ⟨0, 0, 0, 0, 0, 0, 0, 0, 0⟩
abbrev zeroC : Array Value := #[.int .u32 0, .int .u32 0, .int .u32 0, .int .u32 0, .int .u32 0, .int .u32 0, .int .u32 0, .int .u32 0, .int .u32 0]
abbrev zeroO : Obj := .cells zeroC 33
theorem store_new (w : World) (h : Pl) : (Instr.storeAt 33 (.pointer (some ⟨w.heap.size, 0, none⟩)) (plV h)).run Try.prog (w.alloc zeroO) = .ok () (w.alloc (plO h)) :=
  run_storeAt_new w 33 _ (plC h) (by rw [size33, plC_size]) (by rw [plC_size]; rfl) (pl_one h)
/-- A function's own state, and behind it its result. -/
def St (n : Nat) (W : World) (h : Pl) (r : Array Value) : World := ((W.alloc (plO h)).alloc (.cells r 33)).drewN n
theorem St.box (n : Nat) (W : World) (h : Pl) (r : Array Value) : Box (St n W h r) W.heap.size h := (Box.new W h).alloc (.cells r 33)
theorem St.res (n : Nat) (W : World) (h : Pl) (r : Array Value) : (St n W h r).heap[W.heap.size + 1]? = some (.cells r 33 (0, 0)) := by
  have k := heap_alloc_last (W.alloc (plO h)) (.cells r 33)
  rwa [World.size_alloc] at k
theorem St.put (n : Nat) (W : World) (h g : Pl) (r : Array Value) : (St n W h r).setRow W.heap.size (plC g) = St n W g r := by
  have k : ((W.alloc (plO h)).alloc (.cells r 33)).setRow W.heap.size (plC g) = (W.alloc (plO g)).alloc (.cells r 33) := by rw [setRow_alloc_old _ _ _ _ (by simp), World.setRow_alloc_new]
  exact congrArg (fun w => w.drewN n) k
theorem St.full (n : Nat) (W : World) (h : Pl) (r r' : Array Value) : (St n W h r).setRow (W.heap.size + 1) r' = St n W h r' := by
  have k := World.setRow_alloc_new (W.alloc (plO h)) r r' 33
  rw [World.size_alloc] at k
  exact congrArg (fun w => w.drewN n) k
theorem St.below (n : Nat) (W : World) (h : Pl) (r : Array Value) : Below W.heap.size W (St n W h r) := ⟨rfl, rfl, rfl, by show W.heap.size ≤ ((W.heap.push _).push _).size; simp; omega, fun k hk => (((Below.refl _ _).alloc (Nat.le_refl _) _).alloc (by simp) _).block k hk⟩
theorem St.load (n : Nat) (W : World) (h : Pl) (r : Array Value) : (Instr.loadAt 33 (.pointer (some ⟨W.heap.size, 0, none⟩))).run Try.prog (St n W h r) = .ok (plV h) (St n W h r) := (St.box n W h r).load
theorem St.store (n : Nat) (W : World) (h g : Pl) : (Instr.storeAt 33 (.pointer (some ⟨W.heap.size + 1, 0, none⟩)) (plV g)).run Try.prog (St n W h zeroC) = .ok () (St n W h (plC g)) :=
  (store_box _ _ _ _ (St.res n W h zeroC) rfl).trans (by rw [St.full])
theorem St.store_at {n : Nat} {W : World} {h : Pl} (g : Pl) {r : Array Value} (i : Nat) {v : Value} (hi : i < 9) (h1 : v.oneCell' = true) (hc : v.cells = #[v]) (ht : plL g = (plL h).set i v) : (Instr.storeAt 29 (.pointer (some ⟨W.heap.size, i, none⟩)) v).run Try.prog (St n W h r) = .ok () (St n W g r) := by
  refine (run_store_cell _ _ i 29 33 _ _ (St.box n W h r) size29 (by rw [plC_size]; omega) h1 hc).trans ?_
  rw [plC_set h g i v ht, St.put]
theorem St.result (n : Nat) (W : World) (h g : Pl) : (loadVar 33 ⟨W.heap.size + 1, 0, none⟩).run Try.prog (St n W h (plC g)) = .ok (plV g) (St n W h (plC g)) := Box.result (St.res n W h (plC g))
theorem St.zero (W : World) (h : Pl) : (W.alloc (plO h)).alloc zeroO = St 0 W h zeroC := rfl
theorem St.drew (n : Nat) (W : World) (h : Pl) (r : Array Value) : (St n W h r).drew = St (n + 1) W h r := rfl
theorem plC_zero : plC zeroP = zeroC := rfl
theorem St.load_p0 {n : Nat} {W : World} {p0 p1 p2 p3 e0 e1 l0 l1 c : Int} {r : Array Value} : (Instr.loadAt 29 (.pointer (some ⟨W.heap.size, 0, none⟩))).run Try.prog (St n W (⟨p0, p1, p2, p3, e0, e1, l0, l1, c⟩ : Pl) r) = .ok (.int .u32 p0) (St n W (⟨p0, p1, p2, p3, e0, e1, l0, l1, c⟩ : Pl) r) := (St.box n W _ r).load_p0
theorem St.store_p0 {n : Nat} {W : World} {p0 p1 p2 p3 e0 e1 l0 l1 c : Int} {r : Array Value} {v : Int} : (Instr.storeAt 29 (.pointer (some ⟨W.heap.size, 0, none⟩)) (.int .u32 v)).run Try.prog (St n W (⟨p0, p1, p2, p3, e0, e1, l0, l1, c⟩ : Pl) r) = .ok () (St n W (⟨v, p1, p2, p3, e0, e1, l0, l1, c⟩ : Pl) r) := St.store_at (⟨v, p1, p2, p3, e0, e1, l0, l1, c⟩ : Pl) 0 (by omega) rfl rfl rfl
theorem St.load_p1 {n : Nat} {W : World} {p0 p1 p2 p3 e0 e1 l0 l1 c : Int} {r : Array Value} : (Instr.loadAt 29 (.pointer (some ⟨W.heap.size, 1, none⟩))).run Try.prog (St n W (⟨p0, p1, p2, p3, e0, e1, l0, l1, c⟩ : Pl) r) = .ok (.int .u32 p1) (St n W (⟨p0, p1, p2, p3, e0, e1, l0, l1, c⟩ : Pl) r) := (St.box n W _ r).load_p1
theorem St.store_p1 {n : Nat} {W : World} {p0 p1 p2 p3 e0 e1 l0 l1 c : Int} {r : Array Value} {v : Int} : (Instr.storeAt 29 (.pointer (some ⟨W.heap.size, 1, none⟩)) (.int .u32 v)).run Try.prog (St n W (⟨p0, p1, p2, p3, e0, e1, l0, l1, c⟩ : Pl) r) = .ok () (St n W (⟨p0, v, p2, p3, e0, e1, l0, l1, c⟩ : Pl) r) := St.store_at (⟨p0, v, p2, p3, e0, e1, l0, l1, c⟩ : Pl) 1 (by omega) rfl rfl rfl
theorem St.load_p2 {n : Nat} {W : World} {p0 p1 p2 p3 e0 e1 l0 l1 c : Int} {r : Array Value} : (Instr.loadAt 29 (.pointer (some ⟨W.heap.size, 2, none⟩))).run Try.prog (St n W (⟨p0, p1, p2, p3, e0, e1, l0, l1, c⟩ : Pl) r) = .ok (.int .u32 p2) (St n W (⟨p0, p1, p2, p3, e0, e1, l0, l1, c⟩ : Pl) r) := (St.box n W _ r).load_p2
theorem St.store_p2 {n : Nat} {W : World} {p0 p1 p2 p3 e0 e1 l0 l1 c : Int} {r : Array Value} {v : Int} : (Instr.storeAt 29 (.pointer (some ⟨W.heap.size, 2, none⟩)) (.int .u32 v)).run Try.prog (St n W (⟨p0, p1, p2, p3, e0, e1, l0, l1, c⟩ : Pl) r) = .ok () (St n W (⟨p0, p1, v, p3, e0, e1, l0, l1, c⟩ : Pl) r) := St.store_at (⟨p0, p1, v, p3, e0, e1, l0, l1, c⟩ : Pl) 2 (by omega) rfl rfl rfl
theorem St.load_p3 {n : Nat} {W : World} {p0 p1 p2 p3 e0 e1 l0 l1 c : Int} {r : Array Value} : (Instr.loadAt 29 (.pointer (some ⟨W.heap.size, 3, none⟩))).run Try.prog (St n W (⟨p0, p1, p2, p3, e0, e1, l0, l1, c⟩ : Pl) r) = .ok (.int .u32 p3) (St n W (⟨p0, p1, p2, p3, e0, e1, l0, l1, c⟩ : Pl) r) := (St.box n W _ r).load_p3
theorem St.store_p3 {n : Nat} {W : World} {p0 p1 p2 p3 e0 e1 l0 l1 c : Int} {r : Array Value} {v : Int} : (Instr.storeAt 29 (.pointer (some ⟨W.heap.size, 3, none⟩)) (.int .u32 v)).run Try.prog (St n W (⟨p0, p1, p2, p3, e0, e1, l0, l1, c⟩ : Pl) r) = .ok () (St n W (⟨p0, p1, p2, v, e0, e1, l0, l1, c⟩ : Pl) r) := St.store_at (⟨p0, p1, p2, v, e0, e1, l0, l1, c⟩ : Pl) 3 (by omega) rfl rfl rfl
theorem St.load_e0 {n : Nat} {W : World} {p0 p1 p2 p3 e0 e1 l0 l1 c : Int} {r : Array Value} : (Instr.loadAt 29 (.pointer (some ⟨W.heap.size, 4, none⟩))).run Try.prog (St n W (⟨p0, p1, p2, p3, e0, e1, l0, l1, c⟩ : Pl) r) = .ok (.int .u32 e0) (St n W (⟨p0, p1, p2, p3, e0, e1, l0, l1, c⟩ : Pl) r) := (St.box n W _ r).load_e0
theorem St.store_e0 {n : Nat} {W : World} {p0 p1 p2 p3 e0 e1 l0 l1 c : Int} {r : Array Value} {v : Int} : (Instr.storeAt 29 (.pointer (some ⟨W.heap.size, 4, none⟩)) (.int .u32 v)).run Try.prog (St n W (⟨p0, p1, p2, p3, e0, e1, l0, l1, c⟩ : Pl) r) = .ok () (St n W (⟨p0, p1, p2, p3, v, e1, l0, l1, c⟩ : Pl) r) := St.store_at (⟨p0, p1, p2, p3, v, e1, l0, l1, c⟩ : Pl) 4 (by omega) rfl rfl rfl
theorem St.load_e1 {n : Nat} {W : World} {p0 p1 p2 p3 e0 e1 l0 l1 c : Int} {r : Array Value} : (Instr.loadAt 29 (.pointer (some ⟨W.heap.size, 5, none⟩))).run Try.prog (St n W (⟨p0, p1, p2, p3, e0, e1, l0, l1, c⟩ : Pl) r) = .ok (.int .u32 e1) (St n W (⟨p0, p1, p2, p3, e0, e1, l0, l1, c⟩ : Pl) r) := (St.box n W _ r).load_e1
theorem St.store_e1 {n : Nat} {W : World} {p0 p1 p2 p3 e0 e1 l0 l1 c : Int} {r : Array Value} {v : Int} : (Instr.storeAt 29 (.pointer (some ⟨W.heap.size, 5, none⟩)) (.int .u32 v)).run Try.prog (St n W (⟨p0, p1, p2, p3, e0, e1, l0, l1, c⟩ : Pl) r) = .ok () (St n W (⟨p0, p1, p2, p3, e0, v, l0, l1, c⟩ : Pl) r) := St.store_at (⟨p0, p1, p2, p3, e0, v, l0, l1, c⟩ : Pl) 5 (by omega) rfl rfl rfl
theorem St.load_l0 {n : Nat} {W : World} {p0 p1 p2 p3 e0 e1 l0 l1 c : Int} {r : Array Value} : (Instr.loadAt 29 (.pointer (some ⟨W.heap.size, 6, none⟩))).run Try.prog (St n W (⟨p0, p1, p2, p3, e0, e1, l0, l1, c⟩ : Pl) r) = .ok (.int .u32 l0) (St n W (⟨p0, p1, p2, p3, e0, e1, l0, l1, c⟩ : Pl) r) := (St.box n W _ r).load_l0
theorem St.store_l0 {n : Nat} {W : World} {p0 p1 p2 p3 e0 e1 l0 l1 c : Int} {r : Array Value} {v : Int} : (Instr.storeAt 29 (.pointer (some ⟨W.heap.size, 6, none⟩)) (.int .u32 v)).run Try.prog (St n W (⟨p0, p1, p2, p3, e0, e1, l0, l1, c⟩ : Pl) r) = .ok () (St n W (⟨p0, p1, p2, p3, e0, e1, v, l1, c⟩ : Pl) r) := St.store_at (⟨p0, p1, p2, p3, e0, e1, v, l1, c⟩ : Pl) 6 (by omega) rfl rfl rfl
theorem St.load_l1 {n : Nat} {W : World} {p0 p1 p2 p3 e0 e1 l0 l1 c : Int} {r : Array Value} : (Instr.loadAt 29 (.pointer (some ⟨W.heap.size, 7, none⟩))).run Try.prog (St n W (⟨p0, p1, p2, p3, e0, e1, l0, l1, c⟩ : Pl) r) = .ok (.int .u32 l1) (St n W (⟨p0, p1, p2, p3, e0, e1, l0, l1, c⟩ : Pl) r) := (St.box n W _ r).load_l1
theorem St.store_l1 {n : Nat} {W : World} {p0 p1 p2 p3 e0 e1 l0 l1 c : Int} {r : Array Value} {v : Int} : (Instr.storeAt 29 (.pointer (some ⟨W.heap.size, 7, none⟩)) (.int .u32 v)).run Try.prog (St n W (⟨p0, p1, p2, p3, e0, e1, l0, l1, c⟩ : Pl) r) = .ok () (St n W (⟨p0, p1, p2, p3, e0, e1, l0, v, c⟩ : Pl) r) := St.store_at (⟨p0, p1, p2, p3, e0, e1, l0, v, c⟩ : Pl) 7 (by omega) rfl rfl rfl
theorem St.load_c {n : Nat} {W : World} {p0 p1 p2 p3 e0 e1 l0 l1 c : Int} {r : Array Value} : (Instr.loadAt 29 (.pointer (some ⟨W.heap.size, 8, none⟩))).run Try.prog (St n W (⟨p0, p1, p2, p3, e0, e1, l0, l1, c⟩ : Pl) r) = .ok (.int .u32 c) (St n W (⟨p0, p1, p2, p3, e0, e1, l0, l1, c⟩ : Pl) r) := (St.box n W _ r).load_c
theorem St.store_c {n : Nat} {W : World} {p0 p1 p2 p3 e0 e1 l0 l1 c : Int} {r : Array Value} {v : Int} : (Instr.storeAt 29 (.pointer (some ⟨W.heap.size, 8, none⟩)) (.int .u32 v)).run Try.prog (St n W (⟨p0, p1, p2, p3, e0, e1, l0, l1, c⟩ : Pl) r) = .ok () (St n W (⟨p0, p1, p2, p3, e0, e1, l0, l1, v⟩ : Pl) r) := St.store_at (⟨p0, p1, p2, p3, e0, e1, l0, l1, v⟩ : Pl) 8 (by omega) rfl rfl rfl
theorem results_three {fn : Func} {p u q : Tmp} (h : fn.results = #[.cell p 33, .tmp u, .tmp q]) (tmps : Array Value) (w : World) (g : Nat) (k : Pl) (v x : Value) (hp : tmps.getD p undef = .pointer (some ⟨g, 0, none⟩)) (hg : Box w g k) (hv : tmps.getD u undef = v) (hx : tmps.getD q undef = x) :
    (results fn tmps).run Try.prog w = .ok (.tuple #[plV k, v, x]) w := by
  have hp' : tmps[p]?.getD undef = .pointer (some ⟨g, 0, none⟩) := by simpa using hp
  have hv' : tmps[u]?.getD undef = v := by simpa using hv
  have hx' : tmps[q]?.getD undef = x := by simpa using hx
  simp [results, h, hp', hv', hx', asAddr, Box.result hg]
theorem results_two {fn : Func} {p u : Tmp} (h : fn.results = #[.cell p 33, .tmp u]) (tmps : Array Value) (w : World) (g : Nat) (k : Pl) (v : Value) (hp : tmps.getD p undef = .pointer (some ⟨g, 0, none⟩)) (hg : Box w g k) (hv : tmps.getD u undef = v) :
    (results fn tmps).run Try.prog w = .ok (.tuple #[plV k, v]) w := by
  rw [results_cell_tmp h, hp, hv]
  simp [asAddr, Result.andThen, Box.result hg]

end Go.Proofs.Ytgflnfmnjlmenaa.Pc
