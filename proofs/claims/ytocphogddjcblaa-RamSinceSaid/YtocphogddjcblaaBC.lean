/- RamPuts: two copies at once. -/
import Derived.Test.YtocphogddjcblaaBB
import Derived.Test.YtocphogddjcblaaZ
namespace Go.Proofs.Ytocphogddjcblaa
open Go.RowKit Go.Deep Go.Joins
def zeroRam : Obj := .cells #[.slice none 0 0, .slice none 0 0, .int .u64 0] 26
theorem nb_drew {w W : World} (h : Below w.heap.size w W) : Below w.heap.size w W.drew := h.drew
theorem nb_alloc {w W : World} (h : Below w.heap.size w W) (o : Obj) : Below w.heap.size w (W.alloc o) := h.alloc h.size o
theorem nb_set {w W : World} {b : Nat} (hb : w.heap.size ≤ b) (h : Below w.heap.size w W) (j : Nat) (v : Value) : Below w.heap.size w (W.setCell ⟨b, j, none⟩ v) := h.setCell hb v
theorem undrew {w u : World} (h : Below w.drew.heap.size w.drew u) : Below w.heap.size w u := ⟨h.os, h.tape, h.output, h.size, h.block⟩
theorem back0 {w w6 : World} (h : Below w.heap.size w w6) : Below w.heap.size w w6 := h
theorem back1 {w w6 : World} (h : Below (w.alloc (.cells #[.slice none 0 0, .slice none 0 0, .int .u64 0] 26)).heap.size (w.alloc (.cells #[.slice none 0 0, .slice none 0 0, .int .u64 0] 26)) w6) :
    Below w.heap.size w w6 ∧ RamVar w6 w.heap.size (.slice none 0 0) (.slice none 0 0) 0 :=
  ⟨below_then (below1 w _) h, RamVar.below (show RamVar (w.alloc _) w.heap.size _ _ 0 from heap_alloc_new w _) h⟩
theorem back2 {w w6 : World} (h : Below ((w.alloc (.cells #[.slice none 0 0, .slice none 0 0, .int .u64 0] 26)).alloc (.cells #[.slice none 0 0, .slice none 0 0, .int .u64 0] 26)).heap.size ((w.alloc (.cells #[.slice none 0 0, .slice none 0 0, .int .u64 0] 26)).alloc (.cells #[.slice none 0 0, .slice none 0 0, .int .u64 0] 26)) w6) :
    Below w.heap.size w w6 ∧ RamVar w6 w.heap.size (.slice none 0 0) (.slice none 0 0) 0 ∧ RamVar w6 (w.heap.size + 1) (.slice none 0 0) (.slice none 0 0) 0 :=
  ⟨below_then (below2 w _ _) h, (first_box w _ _ _ _).below h, (two_boxes w _ _ _ _).below h⟩
/-- A copy that the call made in world W, above w. -/
def CopiedIn (w W : World) (D : List UInt8) (M : List Int) (E : Int) (e : Ending) (u : World) : Prop :=
  ∃ (pv : Option Addr) (cv : Nat) (qv : Option Addr) (cv2 : Nat), e = .returned (.agg #[.slice pv D.length cv, .slice qv M.length cv2, .int .u64 E]) ∧ OwnD u W.heap.size (.slice pv D.length cv) D ∧ OwnM u W.heap.size (.slice qv M.length cv2) M ∧ Below w.heap.size w u ∧ Below W.heap.size W u
/-- What the two copies leave. -/
structure Twins (w wx : World) (D : List UInt8) (M : List Int) (E : Int) (s7 s8 : Value) (z7 z8 N : Nat) (a b c d : Value) : Prop where
  i7 : s7 = .pointer (some ⟨z7, 0, none⟩)
  i8 : s8 = .pointer (some ⟨z8, 0, none⟩)
  v7 : RamVar wx z7 a b E
  v8 : RamVar wx z8 c d E
  ne : z7 ≠ z8
  n7 : w.heap.size ≤ z7
  n8 : w.heap.size ≤ z8
  da : OwnD wx w.heap.size a D
  ma : OwnM wx w.heap.size b M
  db : OwnD wx N c D
  mb : OwnM wx N d M
  la : ∀ g, a.ownBlock = some g → g < N
  lb : ∀ g, b.ownBlock = some g → g < N
  hN : w.heap.size ≤ N
  below : Below w.heap.size w wx
def Two (w wx : World) (D : List UInt8) (M : List Int) (E : Int) (s7 s8 : Value) : Prop :=
  ∃ z7 z8 N pa ca qa ca2 pb cb qb cb2, Twins w wx D M E s7 s8 z7 z8 N (.slice pa D.length ca) (.slice qa M.length ca2) (.slice pb D.length cb) (.slice qb M.length cb2)
/-- What both copies have left, ahead of the stores. -/
structure Got (w u1 u2 : World) (D : List UInt8) (M : List Int) (a b c d : Value) : Prop where
  da : OwnD u2 w.heap.size a D
  ma : OwnM u2 w.heap.size b M
  db : OwnD u2 u1.heap.size c D
  mb : OwnM u2 u1.heap.size d M
  la : ∀ g, a.ownBlock = some g → g < u1.heap.size
  lb : ∀ g, b.ownBlock = some g → g < u1.heap.size
  hN : w.heap.size ≤ u1.heap.size
  below : Below w.heap.size w u2
theorem got_mk {w u1 u2 : World} {B1 B2 : Nat} {D : List UInt8} {M : List Int} {a b c d : Value} (hda : OwnD u1 B1 a D) (hma : OwnM u1 B1 b M) (hdb : OwnD u2 B2 c D) (hmb : OwnM u2 B2 d M) (h1 : w.heap.size ≤ B1) (h2 : u1.heap.size ≤ B2) (N1 : w.heap.size ≤ u1.heap.size) (N2 : Below w.heap.size w u2) (M2 : Below u1.heap.size u1 u2) :
    Got w u1 u2 D M a b c d :=
  ⟨owns_base (hda.below M2) h1, owns_base (hma.below M2) h1, owns_base hdb h2, owns_base hmb h2, fun _ hg => (owns_lt hda hg).2, fun _ hg => (owns_lt hma hg).2, N1, N2⟩
theorem two_fin {w u1 u2 wx : World} {D : List UInt8} {M : List Int} {E : Int} {z7 z8 : Nat} {S : Nat → Prop} {pa qa pb qb : Option Addr} {ca ca2 cb cb2 : Nat} (h : Got w u1 u2 D M (.slice pa D.length ca) (.slice qa M.length ca2) (.slice pb D.length cb) (.slice qb M.length cb2))
    (ht : Touch u2 wx S) (hS : ∀ k, S k → ∃ x y F, RamVar u2 k x y F) (hw : ∀ k, S k → w.heap.size ≤ k) (v7 : RamVar wx z7 (.slice pa D.length ca) (.slice qa M.length ca2) E) (v8 : RamVar wx z8 (.slice pb D.length cb) (.slice qb M.length cb2) E)
    (hne : z7 ≠ z8) (h7 : w.heap.size ≤ z7) (h8 : w.heap.size ≤ z8) : Two w wx D M E (.pointer (some ⟨z7, 0, none⟩)) (.pointer (some ⟨z8, 0, none⟩)) := by
  have hno : ∀ {e : TypeId} {v : Value} {B n size : Nat} {xs : List Value}, u2.ownsRow B e size v n xs → e ≠ 26 → ∀ g, v.ownBlock = some g → ¬ S g := fun ho hne g hg hs => by
    obtain ⟨x, y, F, hv⟩ := hS g hs
    exact not_at ho hv hne hg
  exact ⟨z7, z8, u1.heap.size, pa, ca, qa, ca2, pb, cb, qb, cb2, rfl, rfl, v7, v8, hne, h7, h8, owns_touch h.da ht (hno h.da (by decide)), owns_touch h.ma ht (hno h.ma (by decide)), owns_touch h.db ht (hno h.db (by decide)), owns_touch h.mb ht (hno h.mb (by decide)), h.la, h.lb, h.hN,
    Touch.below h.below ht hw h.below.size⟩
theorem RamVar.set_other {w : World} {z b j : Nat} {dv mv v : Value} {E : Int} (h : RamVar w z dv mv E) (hne : z ≠ b) : RamVar (w.setCell ⟨b, j, none⟩ v) z dv mv E := (Below.heap_setCell _ _ _ _ hne).trans h
theorem twoA {w u1 u2 : World} {D : List UInt8} {M : List Int} {E : Int} {pa qa pb qb : Option Addr} {ca ca2 cb cb2 : Nat} (h : Got w u1 u2 D M (.slice pa D.length ca) (.slice qa M.length ca2) (.slice pb D.length cb) (.slice qb M.length cb2)) :
    Two w ((u2.alloc (.cells #[.slice pa D.length ca, .slice qa M.length ca2, .int .u64 E] 26)).alloc (.cells #[.slice pb D.length cb, .slice qb M.length cb2, .int .u64 E] 26)) D M E (.pointer (some ⟨u2.heap.size, 0, none⟩)) (.pointer (some ⟨u2.heap.size + 1, 0, none⟩)) :=
  two_fin (S := fun _ => False) h (touch_of_below (below2 u2 _ _) _) (fun _ h => h.elim) (fun _ h => h.elim) (first_box u2 _ _ _ _) (two_boxes u2 _ _ _ _) (by omega) h.below.size (by have := h.below.size; omega)
theorem twoA' {w u1 u2 : World} {D : List UInt8} {M : List Int} {E : Int} {pa qa pb qb : Option Addr} {ca ca2 cb cb2 : Nat} (h : Got w u1 u2 D M (.slice pa D.length ca) (.slice qa M.length ca2) (.slice pb D.length cb) (.slice qb M.length cb2)) :
    Two w ((u2.alloc (.cells #[.slice pb D.length cb, .slice qb M.length cb2, .int .u64 E] 26)).alloc (.cells #[.slice pa D.length ca, .slice qa M.length ca2, .int .u64 E] 26)) D M E (.pointer (some ⟨u2.heap.size + 1, 0, none⟩)) (.pointer (some ⟨u2.heap.size, 0, none⟩)) :=
  two_fin (S := fun _ => False) h (touch_of_below (below2 u2 _ _) _) (fun _ h => h.elim) (fun _ h => h.elim) (two_boxes u2 _ _ _ _) (first_box u2 _ _ _ _) (by omega) (by have := h.below.size; omega) h.below.size
def set3 (w : World) (z : Nat) (a b : Value) (E : Int) : World := ((w.setCell ⟨z, 0, none⟩ a).setCell ⟨z, 1, none⟩ b).setCell ⟨z, 2, none⟩ (.int .u64 E)
theorem set3_touch (w : World) (z : Nat) (a b : Value) (E : Int) : Touch w (set3 w z a b E) (fun k => k = z) := (((Touch.refl w (fun k => k = z)).setCell (.inl rfl) _).setCell (.inl rfl) _).setCell (.inl rfl) _
theorem set3_size (w : World) (z : Nat) (a b : Value) (E : Int) : (set3 w z a b E).heap.size = w.heap.size := by unfold set3; rw [World.size_setCell, World.size_setCell, World.size_setCell]
theorem twoB {w u1 u2 : World} {D : List UInt8} {M : List Int} {E : Int} {z : Nat} {pa qa pb qb : Option Addr} {ca ca2 cb cb2 : Nat} (h : Got w u1 u2 D M (.slice pa D.length ca) (.slice qa M.length ca2) (.slice pb D.length cb) (.slice qb M.length cb2)) (hv : RamVar u2 z (.slice none 0 0) (.slice none 0 0) 0) (hz : w.heap.size ≤ z) :
    Two w ((set3 u2 z (.slice pa D.length ca) (.slice qa M.length ca2) E).alloc (.cells #[.slice pb D.length cb, .slice qb M.length cb2, .int .u64 E] 26)) D M E (.pointer (some ⟨z, 0, none⟩)) (.pointer (some ⟨u2.heap.size, 0, none⟩)) := by
  have hlt := hv.lt
  have hnew := heap_alloc_new (set3 u2 z (.slice pa D.length ca) (.slice qa M.length ca2) E) (.cells #[.slice pb D.length cb, .slice qb M.length cb2, .int .u64 E] 26)
  rw [set3_size] at hnew
  exact two_fin (S := fun k => k = z) h ((set3_touch u2 z _ _ E).alloc _) (fun k hk => by subst hk; exact ⟨_, _, _, hv⟩) (fun k hk => by omega) ((hv.store _ _ E).below (below1 _ _)) hnew (by omega) hz h.below.size
theorem twoB' {w u1 u2 : World} {D : List UInt8} {M : List Int} {E : Int} {z : Nat} {pa qa pb qb : Option Addr} {ca ca2 cb cb2 : Nat} (h : Got w u1 u2 D M (.slice pa D.length ca) (.slice qa M.length ca2) (.slice pb D.length cb) (.slice qb M.length cb2)) (hv : RamVar u2 z (.slice none 0 0) (.slice none 0 0) 0) (hz : w.heap.size ≤ z) :
    Two w ((set3 u2 z (.slice pb D.length cb) (.slice qb M.length cb2) E).alloc (.cells #[.slice pa D.length ca, .slice qa M.length ca2, .int .u64 E] 26)) D M E (.pointer (some ⟨u2.heap.size, 0, none⟩)) (.pointer (some ⟨z, 0, none⟩)) := by
  have hlt := hv.lt
  have hnew := heap_alloc_new (set3 u2 z (.slice pb D.length cb) (.slice qb M.length cb2) E) (.cells #[.slice pa D.length ca, .slice qa M.length ca2, .int .u64 E] 26)
  rw [set3_size] at hnew
  exact two_fin (S := fun k => k = z) h ((set3_touch u2 z _ _ E).alloc _) (fun k hk => by subst hk; exact ⟨_, _, _, hv⟩) (fun k hk => by omega) hnew ((hv.store _ _ E).below (below1 _ _)) (by omega) h.below.size hz
theorem twoC {w u1 u2 : World} {D : List UInt8} {M : List Int} {E : Int} {z z' : Nat} {pa qa pb qb : Option Addr} {ca ca2 cb cb2 : Nat} (h : Got w u1 u2 D M (.slice pa D.length ca) (.slice qa M.length ca2) (.slice pb D.length cb) (.slice qb M.length cb2)) (hv : RamVar u2 z (.slice none 0 0) (.slice none 0 0) 0) (hv' : RamVar u2 z' (.slice none 0 0) (.slice none 0 0) 0)
    (hne : z ≠ z') (hz : w.heap.size ≤ z) (hz' : w.heap.size ≤ z') :
    Two w (set3 (set3 u2 z (.slice pa D.length ca) (.slice qa M.length ca2) E) z' (.slice pb D.length cb) (.slice qb M.length cb2) E) D M E (.pointer (some ⟨z, 0, none⟩)) (.pointer (some ⟨z', 0, none⟩)) := by
  have hv1 := hv'.touch (set3_touch u2 z (.slice pa D.length ca) (.slice qa M.length ca2) E) (fun e => hne e.symm)
  exact two_fin (S := fun k => k = z ∨ k = z') h (((set3_touch u2 z _ _ E).mono (fun _ _ hk => .inl hk)).trans ((set3_touch _ z' _ _ E).mono (fun _ _ hk => .inr hk))) (fun k hk => by rcases hk with rfl | rfl; exact ⟨_, _, _, hv⟩; exact ⟨_, _, _, hv'⟩)
    (fun k hk => by rcases hk with rfl | rfl <;> assumption) ((hv.store _ _ E).touch (set3_touch _ z' _ _ E) hne) (hv1.store _ _ E) hne hz hz'
theorem twoBx {w u1 u2 : World} {D : List UInt8} {M : List Int} {E : Int} {z : Nat} {pa qa pb qb : Option Addr} {ca ca2 cb cb2 : Nat} (h : Got w u1 u2 D M (.slice pa D.length ca) (.slice qa M.length ca2) (.slice pb D.length cb) (.slice qb M.length cb2)) (hv : RamVar u2 z (.slice none 0 0) (.slice none 0 0) 0) (hz : w.heap.size ≤ z) :
    Two w (((((u2).setCell ⟨z, 0, none⟩ (.slice pa D.length ca)).setCell ⟨z, 1, none⟩ (.slice qa M.length ca2)).setCell ⟨z, 2, none⟩ (.int .u64 E)).alloc (.cells #[.slice pb D.length cb, .slice qb M.length cb2, .int .u64 E] 26)) D M E (.pointer (some ⟨z, 0, none⟩)) (.pointer (some ⟨u2.heap.size, 0, none⟩)) := twoB h hv hz
theorem twoBx' {w u1 u2 : World} {D : List UInt8} {M : List Int} {E : Int} {z : Nat} {pa qa pb qb : Option Addr} {ca ca2 cb cb2 : Nat} (h : Got w u1 u2 D M (.slice pa D.length ca) (.slice qa M.length ca2) (.slice pb D.length cb) (.slice qb M.length cb2)) (hv : RamVar u2 z (.slice none 0 0) (.slice none 0 0) 0) (hz : w.heap.size ≤ z) :
    Two w (((((u2).setCell ⟨z, 0, none⟩ (.slice pb D.length cb)).setCell ⟨z, 1, none⟩ (.slice qb M.length cb2)).setCell ⟨z, 2, none⟩ (.int .u64 E)).alloc (.cells #[.slice pa D.length ca, .slice qa M.length ca2, .int .u64 E] 26)) D M E (.pointer (some ⟨u2.heap.size, 0, none⟩)) (.pointer (some ⟨z, 0, none⟩)) := twoB' h hv hz
theorem twoCx {w u1 u2 : World} {D : List UInt8} {M : List Int} {E : Int} {z z' : Nat} {pa qa pb qb : Option Addr} {ca ca2 cb cb2 : Nat} (h : Got w u1 u2 D M (.slice pa D.length ca) (.slice qa M.length ca2) (.slice pb D.length cb) (.slice qb M.length cb2)) (hv : RamVar u2 z (.slice none 0 0) (.slice none 0 0) 0) (hv' : RamVar u2 z' (.slice none 0 0) (.slice none 0 0) 0)
    (hne : z ≠ z') (hz : w.heap.size ≤ z) (hz' : w.heap.size ≤ z') :
    Two w (((((((u2).setCell ⟨z, 0, none⟩ (.slice pa D.length ca)).setCell ⟨z, 1, none⟩ (.slice qa M.length ca2)).setCell ⟨z, 2, none⟩ (.int .u64 E)).setCell ⟨z', 0, none⟩ (.slice pb D.length cb)).setCell ⟨z', 1, none⟩ (.slice qb M.length cb2)).setCell ⟨z', 2, none⟩ (.int .u64 E)) D M E (.pointer (some ⟨z, 0, none⟩)) (.pointer (some ⟨z', 0, none⟩)) := twoC h hv hv' hne hz hz'
end Go.Proofs.Ytocphogddjcblaa
