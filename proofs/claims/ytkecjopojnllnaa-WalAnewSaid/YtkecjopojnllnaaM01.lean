/- The kit of this seat: laws of no program (my own, from the seat of the disk), for its types. -/
import Derived.Test.YtkecjopojnllnaaRows
import Derived.BigQuiet
import Derived.Carry
import Derived.ChangeMaps
import Derived.Deep.AppendSrc
import Derived.Deep.DeepCutAuto
import Derived.Deep.RegionHeld3
import Derived.Deep.RegionLaw
import Derived.Deep.RegionWith
import Derived.Deep.Slices
import Derived.Deep.Strs
import Derived.JoinedCond
import Derived.Laws.AppendOwnNone
import Derived.Laws.CopyOwn
import Derived.Laws.IdiomStrings
import Derived.Lib.AppendZerosOnto
import Derived.Lib.Hide
import Derived.Lib.Overlaps
import Derived.Lib.SmallJoins
import Derived.OpenShut
import Derived.ProofKit
import Derived.SizedLaws
import Derived.StillTailTactics
import Derived.WalkKit
import Derived.WalkLawsBesides
namespace Go.Proofs.Ytkecjopojnllnaa
open Go.RowKit Go.Deep Go.Joins
theorem ret_bool {a b : Bool} (h : a = b) : Ending.returned (.bool a) = .returned (.bool b) := by rw [h]
theorem ret_int {k : IntKind} {a b : Int} (h : a = b) : Ending.returned (.int k a) = .returned (.int k b) := by rw [h]
theorem ret_string {a b : ByteArray} (h : a = b) : Ending.returned (.string a) = .returned (.string b) := by rw [h]

/-! ### Data -/
structure Wr where
  pos : Int
  bytes : ByteArray
structure Fl where
  name : ByteArray
  safe : ByteArray
  opens : List Wr
def worksB (t : Int) (s : ByteArray) : Bool := !s.toList.isEmpty && decide (0 ≤ t) && decide (t ≤ 1048576)
def letterB (c : Int) : Bool := (decide (97 ≤ c) && decide (c ≤ 122)) || (decide (48 ≤ c) && decide (c ≤ 57)) || c == 46
def nameB (s : ByteArray) : Bool := decide (1 ≤ s.size) && decide (s.size ≤ 16) && s.data.toList.all fun c => letterB c.toNat
theorem len_eq (s : ByteArray) : s.data.toList.length = s.size := by rw [Array.length_toList]; rfl
theorem mem_at (s : ByteArray) (k : Nat) (h : k < s.size) : s[k] ∈ s.data.toList := by
  have : s[k] = s.data.toList[k]'(by rw [len_eq]; exact h) := rfl
  rw [this]; exact List.getElem_mem _
theorem take_snoc (s : ByteArray) (k : Nat) (h : k < s.size) : s.data.toList.take (k + 1) = s.data.toList.take k ++ [s[k]] := by
  rw [List.take_succ_eq_append_getElem (by simpa using h)]; rfl
def sameN (n x : ByteArray) : Bool := n.toList == x.toList
def above (n x : ByteArray) : Bool := !(Op.bytesLess n.toList x.toList || n.toList == x.toList)
/-- The slice value 'v' reads as 'n' elements of 'size' cells each, which hold 'cells'. -/
def Reads (w : World) (v : Value) (size n : Nat) (cells : List Value) : Prop :=
  cells.length = n * size ∧ ((v = .slice none 0 0 ∧ n = 0) ∨
    ∃ a cap, v = .slice (some a) n cap ∧ n ≤ cap ∧ cap ≤ maxLen ∧ ∀ j u, cells[j]? = some u → w.cell? (a.add j) = some u)
theorem lt_of_cell {w : World} {a : Addr} {v : Value} (h : w.cell? a = some v) : a.block < w.heap.size := World.block_lt_of_cell? w a h
theorem below_cell {w w' : World} {a : Addr} {v : Value} (hb : Below w.heap.size w w') (h : w.cell? a = some v) : w'.cell? a = some v :=
  (hb.cell (lt_of_cell h)).trans h
theorem Reads.below {w w' : World} {v : Value} {size n : Nat} {cells : List Value} (h : Reads w v size n cells) (hb : Below w.heap.size w w') : Reads w' v size n cells := by
  obtain ⟨hl, h⟩ := h
  refine ⟨hl, ?_⟩
  rcases h with h | ⟨a, cap, hv, h1, h2, hc⟩
  · exact .inl h
  · exact .inr ⟨a, cap, hv, h1, h2, fun j u hu => below_cell hb (hc j u hu)⟩
theorem Reads.is {w : World} {v : Value} {size n : Nat} {cells : List Value} (h : Reads w v size n cells) : ∃ p cap, v = .slice p n cap := by
  rcases h.2 with ⟨rfl, rfl⟩ | ⟨a, cap, rfl, _⟩
  · exact ⟨_, _, rfl⟩
  · exact ⟨_, _, rfl⟩
theorem spot_none {w : World} {a : Addr} {v : Value} (h : w.cell? a = some v) : a.spot = none := by
  unfold World.cell? at h
  split at h
  · split at h
    · cases h
    · rename_i hs; simpa using hs
  · cases h
theorem add_lit (b off j : Nat) : (⟨b, off, none⟩ : Addr).add j = ⟨b, off + j, none⟩ := by
  unfold Addr.add; split <;> simp_all
theorem Reads.at {w : World} {v : Value} {size n : Nat} {cells : List Value} (h : Reads w v size n cells) (h0 : 0 < n * size) :
    ∃ b off cap, v = .slice (some ⟨b, off, none⟩) n cap ∧ n ≤ cap ∧ cap ≤ maxLen ∧ b < w.heap.size ∧ ∀ j u, cells[j]? = some u → w.cell? ⟨b, off + j, none⟩ = some u := by
  obtain ⟨hl, h⟩ := h
  rcases h with ⟨_, rfl⟩ | ⟨a, cap, hv, h1, h2, hc⟩
  · omega
  · obtain ⟨u, hu⟩ : ∃ u, cells[0]? = some u := ⟨cells[0]'(by omega), List.getElem?_eq_getElem _⟩
    have hc0 := hc 0 u hu
    have ha0 : a.add 0 = a := by simp [Addr.add]
    rw [ha0] at hc0
    have hs := spot_none hc0
    have hb := lt_of_cell hc0
    obtain ⟨b, off, spot⟩ := a
    dsimp at hs hb
    subst hs
    exact ⟨b, off, cap, hv, h1, h2, hb, fun j u hu => by rw [← add_lit]; exact hc j u hu⟩

/-! ### Rows of files -/
structure Rw where
  name : ByteArray
  safe : ByteArray
  ov : Value
  opens : List Wr
def rowCells (l : List Rw) : List Value := l.flatMap fun r => [.string r.name, .string r.safe, r.ov]
theorem rowCells_length (l : List Rw) : (rowCells l).length = l.length * 3 := by
  induction l with
  | nil => rfl
  | cons x l ih => simp only [rowCells, List.flatMap_cons, List.length_append, List.length_cons, List.length_nil] at *; omega
theorem rowCells_get (l : List Rw) (k : Nat) (h : k < l.length) :
    (rowCells l)[k * 3]? = some (.string l[k].name) ∧ (rowCells l)[k * 3 + 1]? = some (.string l[k].safe) ∧ (rowCells l)[k * 3 + 2]? = some l[k].ov := by
  induction l generalizing k with
  | nil => simp at h
  | cons x l ih =>
    have e : rowCells (x :: l) = .string x.name :: .string x.safe :: x.ov :: rowCells l := rfl
    rw [e]
    cases k with
    | zero => simp
    | succ k =>
      have := ih k (by simpa using h)
      rw [show (k + 1) * 3 = k * 3 + 1 + 1 + 1 by omega]
      simpa using this
def idx (p : Rw → Bool) (l : List Rw) : Int := match l.findIdx? p with | some i => i | none => -1
def noneYet (p : Rw → Bool) (l : List Rw) (k : Nat) : Prop := ∀ j (h : j < l.length), j < k → p l[j] = false
theorem idx_none {p : Rw → Bool} {l : List Rw} (h : noneYet p l l.length) : idx p l = -1 := by
  unfold idx
  have : l.findIdx? p = none := by
    rw [List.findIdx?_eq_none_iff]
    intro x hx
    obtain ⟨j, hj, rfl⟩ := List.getElem_of_mem hx
    exact h j hj hj
  rw [this]
theorem idx_some {p : Rw → Bool} {l : List Rw} {k : Nat} (hk : k < l.length) (h : noneYet p l k) (hp : p l[k] = true) : idx p l = k := by
  unfold idx
  have : l.findIdx? p = some k := by
    rw [List.findIdx?_eq_some_iff_getElem]
    exact ⟨hk, hp, fun j hj => by simp [h j (by omega) hj]⟩
  rw [this]
theorem noneYet_succ {p : Rw → Bool} {l : List Rw} {k : Nat} (h : noneYet p l k) (hp : ∀ hk : k < l.length, p l[k] = false) : noneYet p l (k + 1) := by
  intro j hj hlt
  by_cases e : j < k
  · exact h j hj e
  · have : j = k := by omega
    subst this
    exact hp hj
def sameName (x : ByteArray) (r : Rw) : Bool := sameN r.name x
def aboveName (x : ByteArray) (r : Rw) : Bool := above r.name x
/-- File number k's three cells. -/
theorem Reads.file {w : World} {v : Value} {l : List Rw} (h : Reads w v 3 l.length (rowCells l)) (k : Nat) (hk : k < l.length) :
    ∃ b off cap, v = .slice (some ⟨b, off, none⟩) l.length cap ∧ l.length ≤ cap ∧ cap ≤ maxLen ∧ b < w.heap.size ∧ w.cell? ⟨b, off + k * 3, none⟩ = some (.string l[k].name) ∧
      w.cell? ⟨b, off + k * 3 + 1, none⟩ = some (.string l[k].safe) ∧ w.cell? ⟨b, off + k * 3 + 2, none⟩ = some l[k].ov := by
  obtain ⟨b, off, cap, hv, h1, h2, hb, hc⟩ := h.at (by omega)
  obtain ⟨g0, g1, g2⟩ := rowCells_get l k hk
  exact ⟨b, off, cap, hv, h1, h2, hb, hc _ _ g0, hc _ _ g1, hc _ _ g2⟩
theorem below1 (w : World) (a : Obj) : Below w.heap.size w (w.alloc a) := (Below.refl _ _).alloc (Nat.le_refl _) _
theorem below2 (w : World) (a b : Obj) : Below w.heap.size w ((w.alloc a).alloc b) := (below1 w a).alloc (by simp) _
theorem below_then {w w1 w2 : World} (h : Below w.heap.size w w1) (h2 : Below w1.heap.size w1 w2) : Below w.heap.size w w2 := h.trans (h2.mono h.size)
def placeOf (x : ByteArray) (l : List Rw) : Int := if idx (aboveName x) l < 0 then l.length else idx (aboveName x) l
end Go.Proofs.Ytkecjopojnllnaa
namespace Go
open Go.RowKit
/-- copy OF A STRING's BYTES INTO A ROW OF BYTES THAT IS KNOWN WHOLE. -/
theorem run_copy_string {P : Program} (w : World) (dT sT ty elem : TypeId) (g o dLen dCap : Nat) (s : ByteArray) (cur : Array Value) (t : TypeId)
    (hu : P.underlying dT = some (.slice elem)) (hs : (P.info? elem).map (·.size) = some 1)
    (hg : w.heap[g]? = some (.cells cur t (0, 0))) (hn : s.size ≤ dLen) (hfit : o + s.size ≤ cur.size) :
    (Builtin.copy_ #[dT, sT] ty #[.slice (some ⟨g, o, none⟩) dLen dCap, .string s]).run P w =
      .ok (goInt s.size) (w.setRow g (cur.toList.take o ++ byteCells s ++ cur.toList.drop (o + s.size)).toArray) := by
  have hst := run_storeCells_at P g o t (byteCells s) 0 cur w hg (by rw [byteCells_length]; simpa using hfit) (by
    intro u hu
    obtain ⟨_, _, rfl⟩ := List.mem_map.1 hu
    rfl)
  rw [byteCells_length] at hst
  have hm : Nat.min s.size dLen = s.size := Nat.min_eq_left hn
  cases hq : P.info? elem with
  | none => simp [hq] at hs
  | some i =>
    have hi : i.size = 1 := by simpa [hq] using hs
    have hf := firstCells_string (P := P) s w
    simp [Builtin.copy_, run_underlying hu, Builtin.lenOf, sizeOf, typeInfo, hq, hi, hm, hf, hst]
def spliceB (L : List UInt8) (off : Nat) (s : ByteArray) : List UInt8 := splice L off s.data.toList
def bcells (L : List UInt8) : Array Value := (L.map fun b => Value.int .u8 b.toNat).toArray
theorem bcells_splice (L : List UInt8) (off : Nat) (s : ByteArray) :
    ((bcells L).toList.take off ++ byteCells s ++ (bcells L).toList.drop (off + s.size)).toArray = bcells (spliceB L off s) := by
  unfold bcells spliceB splice byteCells
  rw [show s.data.toList.length = s.size from by rw [Array.length_toList]; rfl]
  simp [List.map_take, List.map_drop, List.append_assoc]
theorem wpList_copy_string {P : Program} {w : World} {ops : Array Oper} {rest : List Oper} {o : Oper} {a : Act} {Q : Exit → Act → World → Prop} (hgd : o.guard = none) (d s : Operand) (dT sT : TypeId)
    (ho : o.op = .call { callee := .builtin .copy, args := #[d, s], argTypes := #[dT, sT] }) (elem : TypeId) (hu : P.underlying dT = some (.slice elem)) (hsz : (P.info? elem).map (·.size) = some 1)
    (dLen dCap : Nat) (g off : Nat) (hd : a.eval d = .slice (some ⟨g, off, none⟩) dLen dCap) (x : ByteArray) (hs : a.eval s = .string x)
    (L : List UInt8) (t : TypeId) (hg : w.heap[g]? = some (.cells (bcells L) t (0, 0))) (hn : x.size ≤ dLen) (hfit : off + x.size ≤ L.length) (B : Nat) (w0 : World) (hb : Below B w0 w) (hBg : B ≤ g)
    (h : ∀ w', Hid (w'.heap[g]? = some (.cells (bcells (spliceB L off x)) t (0, 0))) → Below B w0 w' → wpList P ops Q rest (a.put o.dst (goInt x.size)) w') :
    wpList P ops Q (o :: rest) a w := by
  refine wpList_plain hgd fun K hK => ?_
  have hrun := run_copy_string (P := P) w dT sT o.type elem g off dLen dCap x (bcells L) t hu hsz hg hn (by simpa [bcells] using hfit)
  unfold Oper.wp
  simp [execOp, ho, resolve, invoke, builtin, hd, hs, hrun, Result.andThen]
  refine hK _ _ (h _ (show _ = _ from ?_) (below_setRow hb hBg _))
  rw [setRow_heap w g _ _ t _ hg]
  have e := bcells_splice L off x
  rw [← e]
  simp
theorem step_copy_string {P : Program} {ops : Array Oper} {o : Oper} {a : Act} {w : World} {K : Act → World → Prop} {Q : Exit → Act → World → Prop} {E : Prop} (hgd : o.guard = none) (d s : Operand) (dT sT : TypeId)
    (ho : o.op = .call { callee := .builtin .copy, args := #[d, s], argTypes := #[dT, sT] }) (elem : TypeId) (hu : P.underlying dT = some (.slice elem)) (hsz : (P.info? elem).map (·.size) = some 1)
    (dLen dCap : Nat) (g off : Nat) (hd : a.eval d = .slice (some ⟨g, off, none⟩) dLen dCap) (x : ByteArray) (hs : a.eval s = .string x)
    (L : List UInt8) (t : TypeId) (hg : w.heap[g]? = some (.cells (bcells L) t (0, 0))) (hn : x.size ≤ dLen) (hfit : off + x.size ≤ L.length) (B : Nat) (w0 : World) (hb : Below B w0 w) (hBg : B ≤ g)
    (h : ∀ w', Hid (w'.heap[g]? = some (.cells (bcells (spliceB L off x)) t (0, 0))) → Below B w0 w' → K (a.put o.dst (goInt x.size)) w') :
    if Region.wanted o (yielded ops a.tmps) = true then Oper.wp P o a w K Q else E := by
  have hw : Region.wanted o (yielded ops a.tmps) = true := by simp [Region.wanted, hgd]
  rw [if_pos hw]
  have hrun := run_copy_string (P := P) w dT sT o.type elem g off dLen dCap x (bcells L) t hu hsz hg hn (by simpa [bcells] using hfit)
  unfold Oper.wp
  simp [execOp, ho, resolve, invoke, builtin, hd, hs, hrun, Result.andThen]
  refine h _ (show _ = _ from ?_) (below_setRow hb hBg _)
  rw [setRow_heap w g _ _ t _ hg]
  have e := bcells_splice L off x
  rw [← e]
  simp
/-- A []byte OVER A ROW THAT IS KNOWN WHOLE, AS A STRING. -/
theorem run_string_of_row {P : Program} (w : World) (src dst e : TypeId) (g n cap : Nat) (L : List UInt8) (t : TypeId) (fr : Nat × Nat)
    (hs : P.underlying src = some (.slice e)) (he : P.underlying e = some (.int .u8)) (hd : P.underlying dst = some .string)
    (hg : w.heap[g]? = some (.cells (bcells L) t fr)) (hn : L.length = n) :
    (convert src dst (.slice (some ⟨g, 0, none⟩) n cap)).run P w = .ok (.string ⟨L.toArray⟩) w := by
  rw [run_convert_bytes_string w src dst e _ n cap hs he hd]
  have hl := run_loadCells_list (P := P) w ⟨g, 0, none⟩ ((L.map fun b => (b.toNat : Int)).map (Value.int .u8)) (by
    intro j v hv
    rw [show (⟨g, 0, none⟩ : Addr).add j = ⟨g, j, none⟩ from by unfold Addr.add; split <;> simp_all]
    rw [cell_of_row w g j _ t fr hg]
    simpa [bcells, Function.comp_def] using hv)
  simp only [List.length_map, hn] at hl
  rw [run_bytesToString w _ n cap _ hl]
  congr 2
  have hfold : ∀ (M : List UInt8) (r : ByteArray), (M.map fun b => (b.toNat : Int)).foldl (fun r n => r.push (UInt8.ofNat n.toNat)) r = ⟨r.data ++ M.toArray⟩ := by
    intro M
    induction M with
    | nil => intro r; cases r; simp
    | cons b M ih =>
      intro r
      rw [List.map_cons, List.foldl_cons, ih]
      cases r
      simp [ByteArray.push]
  rw [hfold]
  simp [ByteArray.empty, ByteArray.emptyWithCapacity]
  rfl
end Go
namespace Go.Proofs.Ytkecjopojnllnaa
open Go.RowKit Go.Deep Go.Joins
def wrCells (l : List Wr) : List Value := l.flatMap fun r => [.int .i64 r.pos, .string r.bytes]
theorem wrCells_length (l : List Wr) : (wrCells l).length = l.length * 2 := by
  induction l with
  | nil => rfl
  | cons x l ih => simp only [wrCells, List.flatMap_cons, List.length_append, List.length_cons, List.length_nil] at *; omega
theorem wrCells_get (l : List Wr) (k : Nat) (h : k < l.length) :
    (wrCells l)[k * 2]? = some (.int .i64 l[k].pos) ∧ (wrCells l)[k * 2 + 1]? = some (.string l[k].bytes) := by
  induction l generalizing k with
  | nil => simp at h
  | cons x l ih =>
    have e : wrCells (x :: l) = .int .i64 x.pos :: .string x.bytes :: wrCells l := rfl
    rw [e]
    cases k with
    | zero => simp
    | succ k =>
      have := ih k (by simpa using h)
      rw [show (k + 1) * 2 = k * 2 + 1 + 1 by omega]
      simpa using this
theorem Reads.write {w : World} {v : Value} {l : List Wr} (h : Reads w v 2 l.length (wrCells l)) (k : Nat) (hk : k < l.length) :
    ∃ b off cap, v = .slice (some ⟨b, off, none⟩) l.length cap ∧ l.length ≤ cap ∧ cap ≤ maxLen ∧ b < w.heap.size ∧ w.cell? ⟨b, off + k * 2, none⟩ = some (.int .i64 l[k].pos) ∧
      w.cell? ⟨b, off + k * 2 + 1, none⟩ = some (.string l[k].bytes) := by
  obtain ⟨b, off, cap, hv, h1, h2, hb, hc⟩ := h.at (by omega)
  obtain ⟨g0, g1⟩ := wrCells_get l k hk
  exact ⟨b, off, cap, hv, h1, h2, hb, hc _ _ g0, hc _ _ g1⟩

/-! ### The plain side -/
def wk (x : Wr) : Bool := worksB x.pos x.bytes
def grow (n : Nat) (x : Wr) : Nat := if wk x = true then (if n < x.pos.toNat + x.bytes.size then x.pos.toNat + x.bytes.size else n) else n
def sizeUp (n : Nat) (l : List Wr) : Nat := l.foldl grow n
def over (L : List UInt8) (x : Wr) : List UInt8 := if wk x = true then spliceB L x.pos.toNat x.bytes else L
def overAll (L : List UInt8) (l : List Wr) : List UInt8 := l.foldl over L
def layB (s : ByteArray) (l : List Wr) : ByteArray := if l.length = 0 then s else ⟨(overAll (spliceB (List.replicate (sizeUp s.size l) 0) 0 s) l).toArray⟩
theorem foldl_take_succ {α β : Type} (f : β → α → β) (b : β) (l : List α) (k : Nat) (h : k < l.length) : (l.take (k + 1)).foldl f b = f ((l.take k).foldl f b) l[k] := by
  rw [List.take_succ_eq_append_getElem h, List.foldl_append]; rfl
theorem grow_ge (n : Nat) (x : Wr) : n ≤ grow n x := by unfold grow; split <;> (try split) <;> omega
theorem sizeUp_ge (n : Nat) (l : List Wr) : n ≤ sizeUp n l := by
  induction l generalizing n with
  | nil => exact Nat.le_refl _
  | cons x l ih => exact Nat.le_trans (grow_ge n x) (ih _)
theorem sizeUp_has (n : Nat) (l : List Wr) (x : Wr) (hx : x ∈ l) (hw : wk x = true) : x.pos.toNat + x.bytes.size ≤ sizeUp n l := by
  induction l generalizing n with
  | nil => cases hx
  | cons y l ih =>
    rcases List.mem_cons.1 hx with rfl | h
    · refine Nat.le_trans ?_ (sizeUp_ge _ l)
      unfold grow; rw [if_pos hw]; split <;> omega
    · exact ih _ h
theorem length_over (L : List UInt8) (x : Wr) (h : wk x = true → x.pos.toNat + x.bytes.size ≤ L.length) : (over L x).length = L.length := by
  unfold over
  split
  · rename_i hw
    exact length_splice _ _ _ (by rw [len_eq]; exact h hw)
  · rfl
theorem wk_pos {x : Wr} (h : wk x = true) : 0 ≤ x.pos ∧ x.pos ≤ 1048576 ∧ 0 < x.bytes.size := by
  unfold wk worksB at h
  simp only [Bool.and_eq_true, decide_eq_true_eq, Bool.not_eq_true', List.isEmpty_eq_false_iff] at h
  refine ⟨h.1.2, h.2, ?_⟩
  have := List.length_pos_iff.2 h.1.1
  rw [ByteArray.toList_eq, len_eq] at this
  exact this
theorem made_bytes (n : Nat) : madeCells #[.int .u8 0] n = bcells (List.replicate n 0) := by
  unfold bcells
  apply Array.ext'
  rw [toList_madeCells_one]
  simp
theorem layAll_nil (s : ByteArray) : layB s [] = s := rfl
theorem sizeUp_le (n : Nat) (l : List Wr) (hs : n ≤ 140737489403904) (hb : ∀ x ∈ l, x.bytes.size ≤ 140737488355328) : sizeUp n l ≤ 140737489403904 := by
  induction l generalizing n with
  | nil => exact hs
  | cons x l ih =>
    refine ih _ ?_ fun y hy => hb y (List.mem_cons_of_mem _ hy)
    have h1 := hb x (by simp)
    unfold grow
    split
    · rename_i hw
      have := wk_pos hw
      split <;> omega
    · exact hs
def boolCells (l : List Bool) : List Value := l.map .bool
def cutTo (nb : Int) (s : ByteArray) : ByteArray := s.extract 0 (if (s.size : Int) < (if 0 < nb then nb else 0) then s.size else (if 0 < nb then nb else 0).toNat)
def surv (whole : List Bool) (torn nb : Int) : Nat → List Wr → List Wr
  | _, [] => []
  | i, x :: r => if (i : Int) = torn then [⟨x.pos, cutTo nb x.bytes⟩] else if whole.getD i false then x :: surv whole torn nb (i + 1) r else surv whole torn nb (i + 1) r
theorem surv_nil (whole : List Bool) (torn nb : Int) (i : Nat) : surv whole torn nb i [] = [] := rfl
theorem surv_cons (whole : List Bool) (torn nb : Int) (i : Nat) (x : Wr) (r : List Wr) : surv whole torn nb i (x :: r) =
    if (i : Int) = torn then [⟨x.pos, cutTo nb x.bytes⟩] else if whole.getD i false = true then x :: surv whole torn nb (i + 1) r else surv whole torn nb (i + 1) r := rfl
theorem two_cells (w : World) (b : Nat) (x y : Value) (h1 : w.cell? ⟨b, 0, none⟩ = some x) (h2 : w.cell? ⟨b, 1, none⟩ = some y) :
    ∀ (j : Nat) (u : Value), [x, y][j]? = some u → w.cell? ((⟨b, 0, none⟩ : Addr).add j) = some u := by
  intro j u hu
  rw [add_lit]
  rcases j with _ | _ | j
  · simpa [h1] using hu
  · simpa [h2] using hu
  · simp at hu
theorem grow_below {B : Nat} {W0 wr w5 : World} {u : Value} {e : TypeId} {size n : Nat} {xs : List Value} (hb : Below B W0 wr) (hB : B ≤ wr.heap.size) (a b : Obj) (ho : wr.ownsRow B e size u n xs)
    (hg : ((wr.alloc a).alloc b).grownBy w5 u.ownBlock) : Below B W0 w5 :=
  ((hb.alloc hB a).alloc (by simp; omega) b).grown hg (by simp; omega) fun k hk => (ho.lt k hk).1
theorem wrCells_snoc (l : List Wr) (x : Wr) : wrCells (l ++ [x]) = wrCells l ++ [.int .i64 x.pos, .string x.bytes] := by simp [wrCells]
theorem owns_snoc {w : World} {B : Nat} {v : Value} {acc : List Wr} {x : Wr} (h : w.ownsRow B 76 2 v (acc.length + 1) (wrCells acc ++ [.int .i64 x.pos, .string x.bytes])) :
    w.ownsRow B 76 2 v (acc ++ [x]).length (wrCells (acc ++ [x])) := by
  rw [wrCells_snoc, List.length_append]; exact h
theorem owns_mono {w : World} {B B' : Nat} {e : TypeId} {size n : Nat} {v : Value} {xs : List Value} (h : w.ownsRow B e size v n xs) (hB : B' ≤ B) : w.ownsRow B' e size v n xs := by
  refine ⟨h.1, ?_⟩
  rcases h.2 with h | ⟨g, cap, cur, h1, h2, r⟩
  · exact .inl h
  · exact .inr ⟨g, cap, cur, h1, Nat.le_trans hB h2, r⟩
/-- 'append(T(nil), src...)': a row of the call's own that holds what src holds. -/
theorem wpList_append_copy {P : Program} {w : World} {ops : Array Oper} {rest : List Oper} {o : Oper} {a : Act} {Q : Exit → Act → World → Prop} (hgd : o.guard = none) (s x : Operand) (t : TypeId)
    (ho : o.op = .call { callee := .builtin .append, args := #[s, x], argTypes := #[t, t] })
    (base : Nat) (e : TypeId) (i : TypeInfo) (z : Value) (size bytes : Nat) (ht : P.underlying t = some (.slice e)) (hi : P.info? e = some i) (hz : i.zero = some z)
    (hsize : i.size = size) (hby : i.bytes = bytes) (hzs : z.cells.size = size) (hsz : 0 < size)
    (hs : a.eval s = .slice none 0 0) (src : Value) (hx : a.eval x = src) (n : Nat) (cells : List Value) (hr : Reads w src size n cells) (h1 : ∀ u ∈ cells, u.oneCell' = true)
    (h63 : n ≤ maxLen) (hbytes : n * bytes ≤ 140737488355328) (hbase : base ≤ w.heap.size)
    (h : ∀ p cap w', w'.ownsRow base e size (.slice p n cap) n cells → w.grownBy w' none → wpList P ops Q rest (a.put o.dst (.slice p n cap)) w') : wpList P ops Q (o :: rest) a w := by
  obtain ⟨hl, hr⟩ := hr
  rcases hr with ⟨rfl, rfl⟩ | ⟨ad, cap, rfl, _, _, hc⟩
  · have hnil : cells = [] := List.eq_nil_of_length_eq_zero (by simpa using hl)
    subst hnil
    refine wpList_append_own_none hgd s x t ho base e i size ht hi _ 0 [] hs (World.ownsRow_nil w base e size) hx ?_
    exact h _ _ _ (World.ownsRow_nil w base e size) ⟨rfl, rfl, rfl, Nat.le_refl _, fun _ _ _ => rfl⟩
  · refine wpList_append_own w hgd s x t ho base e i z size bytes ht hi hz hsize hby hzs hsz _ 0 [] hs (World.ownsRow_nil w base e size) ad n cap cells hx hl hc h1 (by omega) (by rw [Nat.zero_add]; exact hbytes) hbase ?_
    intro v' w' h2 h3 _
    rw [Nat.zero_add, List.nil_append] at h2
    obtain ⟨p, cap', hv⟩ : ∃ p cap', v' = .slice p n cap' := by
      rcases h2.2 with ⟨h4, h5⟩ | ⟨g, cap', _, h4, _⟩
      · exact ⟨_, _, h5 ▸ h4⟩
      · exact ⟨_, _, h4⟩
    subst hv
    exact h p cap' w' h2 h3

/-! ### Fates -/
structure Ft where
  wv : Value
  torn : Int
  nb : Int
  whole : List Bool
def ftCells (l : List Ft) : List Value := l.flatMap fun r => [r.wv, .int .i64 r.torn, .int .i64 r.nb]
theorem ftCells_length (l : List Ft) : (ftCells l).length = l.length * 3 := by
  induction l with
  | nil => rfl
  | cons x l ih => simp only [ftCells, List.flatMap_cons, List.length_append, List.length_cons, List.length_nil] at *; omega
theorem ftCells_get (l : List Ft) (k : Nat) (h : k < l.length) :
    (ftCells l)[k * 3]? = some l[k].wv ∧ (ftCells l)[k * 3 + 1]? = some (.int .i64 l[k].torn) ∧ (ftCells l)[k * 3 + 2]? = some (.int .i64 l[k].nb) := by
  induction l generalizing k with
  | nil => simp at h
  | cons x l ih =>
    have e : ftCells (x :: l) = x.wv :: .int .i64 x.torn :: .int .i64 x.nb :: ftCells l := rfl
    rw [e]
    cases k with
    | zero => simp
    | succ k =>
      have := ih k (by simpa using h)
      rw [show (k + 1) * 3 = k * 3 + 1 + 1 + 1 by omega]
      simpa using this
theorem Reads.fate {w : World} {v : Value} {l : List Ft} (h : Reads w v 3 l.length (ftCells l)) (k : Nat) (hk : k < l.length) :
    ∃ b off cap, v = .slice (some ⟨b, off, none⟩) l.length cap ∧ l.length ≤ cap ∧ cap ≤ maxLen ∧ b < w.heap.size ∧ w.cell? ⟨b, off + k * 3, none⟩ = some l[k].wv ∧
      w.cell? ⟨b, off + k * 3 + 1, none⟩ = some (.int .i64 l[k].torn) ∧ w.cell? ⟨b, off + k * 3 + 2, none⟩ = some (.int .i64 l[k].nb) := by
  obtain ⟨b, off, cap, hv, h1, h2, hb, hc⟩ := h.at (by omega)
  obtain ⟨g0, g1, g2⟩ := ftCells_get l k hk
  exact ⟨b, off, cap, hv, h1, h2, hb, hc _ _ g0, hc _ _ g1, hc _ _ g2⟩
def survOf (r : Rw) : Option Ft → List Wr
  | none => []
  | some f => surv f.whole f.torn f.nb 0 r.opens
def crashRow (r : Rw) (f : Option Ft) : Rw := ⟨r.name, layB r.safe (survOf r f), .slice none 0 0, []⟩
def crashRows (l : List Rw) (fs : List Ft) : List Rw := l.mapIdx fun i r => crashRow r fs[i]?
/-- What the sizes must be. -/
def Okay (l : List Rw) : Prop := ∀ r ∈ l, r.safe.size ≤ 140737489403904 ∧ (∀ x ∈ r.opens, x.bytes.size ≤ 140737488355328) ∧ r.opens.length * 24 ≤ 140737488355328
/-- The open writes of every file read as they should. -/
def Opens (w : World) (l : List Rw) : Prop := ∀ r ∈ l, Reads w r.ov 2 r.opens.length (wrCells r.opens)
def Wholes (w : World) (l : List Ft) : Prop := ∀ r ∈ l, Reads w r.wv 1 r.whole.length (boolCells r.whole)
theorem Opens.below {w w' : World} {l : List Rw} (h : Opens w l) (hb : Below w.heap.size w w') : Opens w' l := fun r hr => (h r hr).below hb
theorem surv_length (whole : List Bool) (torn nb : Int) (l : List Wr) (i : Nat) : (surv whole torn nb i l).length ≤ l.length := by
  induction l generalizing i with
  | nil => simp [surv_nil]
  | cons x l ih =>
    rw [surv_cons]
    have := ih (i + 1)
    split
    · simp
    · split <;> simp <;> omega
theorem reads_of_owns {w : World} {B : Nat} {e : TypeId} {size n : Nat} {v : Value} {xs : List Value} (h : w.ownsRow B e size v n xs) : Reads w v size n xs := by
  refine ⟨h.1, ?_⟩
  rcases h.2 with h2 | ⟨g, cap, cur, hv, _, hg, hn, hm, _, _⟩
  · exact .inl h2
  · refine .inr ⟨⟨g, 0, none⟩, cap, hv, hn, hm, h.cells ?_⟩
    rw [hv]; rfl
theorem mix_at (R l : List Rw) (k : Nat) (hR : R.length = l.length) (hk : k < l.length) {h : k < (R.take k ++ l.drop k).length} : (R.take k ++ l.drop k)[k] = l[k] := by
  rw [List.getElem_append_right (by simp; omega)]
  simp [hR, Nat.min_eq_left (Nat.le_of_lt hk)]
theorem mix_set (R l : List Rw) (k : Nat) (hR : R.length = l.length) (hk : k < l.length) : (R.take k ++ l.drop k).set k (R[k]'(by omega)) = R.take (k + 1) ++ l.drop (k + 1) := by
  rw [List.take_succ_eq_append_getElem (by omega)]
  rw [List.set_append_right _ _ (by simp; omega), List.append_assoc]
  have e : (l.drop k).set 0 (R[k]'(by omega)) = R[k]'(by omega) :: l.drop (k + 1) := by rw [List.drop_eq_getElem_cons hk]; rfl
  simp [hR, Nat.min_eq_left (Nat.le_of_lt hk), e]
theorem rowCells_set (l : List Rw) (k : Nat) (r : Rw) (h : k < l.length) : (((rowCells l).set (k * 3) (.string r.name)).set (k * 3 + 1) (.string r.safe)).set (k * 3 + 2) r.ov = rowCells (l.set k r) := by
  induction l generalizing k with
  | nil => simp at h
  | cons x l ih =>
    have e : ∀ (y : Rw) (m : List Rw), rowCells (y :: m) = .string y.name :: .string y.safe :: y.ov :: rowCells m := fun _ _ => rfl
    cases k with
    | zero => simp [e]
    | succ k =>
      have := ih k (by simpa using h)
      rw [show (k + 1) * 3 = k * 3 + 1 + 1 + 1 by omega]
      simp only [List.set_cons_succ, e, this]
/-- File number k of a row of the call's own. -/
theorem owns_file {w : World} {B n cap : Nat} {q : Option Addr} {l : List Rw} (h : w.ownsRow B 58 3 (.slice q n cap) n (rowCells l)) (k : Nat) (hk : k < l.length) (h0 : 0 < n) :
    ∃ g, q = some ⟨g, 0, none⟩ ∧ B ≤ g ∧ g < w.heap.size ∧ w.cell? ⟨g, k * 3, none⟩ = some (.string l[k].name) ∧ w.cell? ⟨g, k * 3 + 1, none⟩ = some (.string l[k].safe) ∧
      w.cell? ⟨g, k * 3 + 2, none⟩ = some l[k].ov ∧ ∀ j, w.frozen? ⟨g, j, none⟩ = false := by
  rcases h.2 with ⟨_, h2⟩ | ⟨g, cap', cur, hv, hB, hg, _⟩
  · omega
  · obtain ⟨rfl, rfl⟩ : q = some ⟨g, 0, none⟩ ∧ cap = cap' := by simpa using hv
    obtain ⟨g0, g1, g2⟩ := rowCells_get l k hk
    have hl := h.1
    rw [rowCells_length] at hl
    refine ⟨g, rfl, hB, (Array.getElem?_eq_some_iff.1 hg).1, ?_, ?_, ?_, fun j => h.frozenAt j⟩
    · rw [h.cellAt _ (by omega)]; exact g0
    · rw [h.cellAt _ (by omega)]; exact g1
    · rw [h.cellAt _ (by omega)]; exact g2
theorem owns_below {w w' : World} {B n size : Nat} {e : TypeId} {v : Value} {xs : List Value} (h : w.ownsRow B e size v n xs) (hb : Below w.heap.size w w') : w'.ownsRow B e size v n xs := by
  refine ⟨h.1, ?_⟩
  rcases h.2 with h2 | ⟨g, cap, cur, h1, h2, h3, r⟩
  · exact .inl h2
  · exact .inr ⟨g, cap, cur, h1, h2, (hb.block g (Array.getElem?_eq_some_iff.1 h3).1).trans h3, r⟩
theorem owns_writes {w : World} {B n : Nat} {v : Value} {l : List Wr} (h : w.ownsRow B 76 2 v n (wrCells l)) : Reads w v 2 l.length (wrCells l) := by
  have hl := h.1
  rw [wrCells_length] at hl
  obtain rfl : n = l.length := by omega
  exact reads_of_owns h
theorem owns_put {w : World} {B n cap g : Nat} {m : List Rw} (h : w.ownsRow B 58 3 (.slice (some ⟨g, 0, none⟩) n cap) n (rowCells m)) (k : Nat) (hk : k < m.length) (r : Rw) :
    (((w.setCell ⟨g, k * 3, none⟩ (.string r.name)).setCell ⟨g, k * 3 + 1, none⟩ (.string r.safe)).setCell ⟨g, k * 3 + 2, none⟩ r.ov).ownsRow B 58 3 (.slice (some ⟨g, 0, none⟩) n cap) n (rowCells (m.set k r)) := by
  rw [← rowCells_set m k r hk]
  exact (((h.stored (k * 3) (.string r.name)).1.stored (k * 3 + 1) (.string r.safe)).1.stored (k * 3 + 2) r.ov).1
theorem below_put {w0 w : World} {B g : Nat} (h : Below B w0 w) (hg : B ≤ g) (k : Nat) (a b c : Value) :
    Below B w0 (((w.setCell ⟨g, k * 3, none⟩ a).setCell ⟨g, k * 3 + 1, none⟩ b).setCell ⟨g, k * 3 + 2, none⟩ c) :=
  ((h.setCell hg _).setCell hg _).setCell hg _
theorem crashRows_at (l : List Rw) (fs : List Ft) (k : Nat) (h : k < (crashRows l fs).length) (hk : k < l.length) : (crashRows l fs)[k] = crashRow l[k] fs[k]? := by
  simp [crashRows]
def core (r : Rw) : Fl := ⟨r.name, r.safe, r.opens⟩
/-- A disk that is the call's own: its row of files, each file's row of open writes, and no two of them one. -/
def OwnD (w : World) (B : Nat) (v : Value) (l : List Rw) : Prop :=
  w.ownsRow B 58 3 v l.length (rowCells l) ∧ (∀ r ∈ l, w.ownsRow B 76 2 r.ov r.opens.length (wrCells r.opens)) ∧ ((v :: l.map (·.ov)).filterMap Value.ownBlock).Nodup
theorem owns_shape {w : World} {B n size : Nat} {e : TypeId} {v : Value} {xs : List Value} (h : w.ownsRow B e size v n xs) : ∃ p cap, v = .slice p n cap := by
  rcases h.2 with ⟨h1, h2⟩ | ⟨g, cap, _, h1, _⟩
  · exact ⟨_, _, h2 ▸ h1⟩
  · exact ⟨_, _, h1⟩
theorem nodup_one (v : Value) : (([v] : List Value).filterMap Value.ownBlock).Nodup := by cases h : v.ownBlock <;> simp [h]
theorem wr_one (l : List Wr) : ∀ u ∈ wrCells l, u.oneCell' = true := by
  intro u hu
  obtain ⟨r, _, hu⟩ := List.mem_flatMap.1 hu
  simp only [List.mem_cons, List.not_mem_nil, or_false] at hu
  rcases hu with rfl | rfl <;> rfl
theorem grown_below {w w' : World} (h : w.grownBy w' none) : Below w.heap.size w w' := (Below.refl _ _).grown h (Nat.le_refl _) (fun k hk => by cases hk)
theorem rowCells_set2 (l : List Rw) (k : Nat) (r : Rw) (h : k < l.length) (hn : l[k].name = r.name) (hs : l[k].safe = r.safe) : (rowCells l).set (k * 3 + 2) r.ov = rowCells (l.set k r) := by
  rw [← rowCells_set l k r h]
  obtain ⟨g0, g1, _⟩ := rowCells_get l k h
  have e0 : (rowCells l).set (k * 3) (.string r.name) = rowCells l := by
    apply List.ext_getElem?
    intro j
    rw [List.getElem?_set]
    split
    · rename_i e; subst e; rw [g0, hn]; split
      · rfl
      · rename_i hl; rw [List.getElem?_eq_none (by omega)] at g0; cases g0
    · rfl
  have e1 : (rowCells l).set (k * 3 + 1) (.string r.safe) = rowCells l := by
    apply List.ext_getElem?
    intro j
    rw [List.getElem?_set]
    split
    · rename_i e; subst e; rw [g1, hs]; split
      · rfl
      · rename_i hl; rw [List.getElem?_eq_none (by omega)] at g1; cases g1
    · rfl
  rw [e0, e1]
theorem owns_other {w : World} {B n size g : Nat} {e : TypeId} {v : Value} {xs : List Value} (h : w.ownsRow B e size v n xs) (hne : v.ownBlock ≠ some g) (j : Nat) (u : Value) : (w.setCell ⟨g, j, none⟩ u).ownsRow B e size v n xs :=
  h.kept (row := some g) ⟨rfl, rfl, rfl, by simp, fun k _ hk => heap_setCell_other w ⟨g, j, none⟩ k u (fun e => hk (by simp [e]))⟩ (.inr hne)
theorem nodup_head {g n cap : Nat} {d : List Rw} (h : ((Value.slice (some ⟨g, 0, none⟩) n cap :: d.map (·.ov)).filterMap Value.ownBlock).Nodup) : ∀ r ∈ d, r.ov.ownBlock ≠ some g := by
  intro r hr e
  simp only [Value.ownBlock, List.filterMap_cons, List.nodup_cons, List.mem_filterMap, List.mem_map] at h
  exact h.1 ⟨r.ov, ⟨r, hr, rfl⟩, e⟩
theorem nodup_snoc {v : Value} {d : List Rw} {r : Rw} {N : Nat} (h : ((v :: d.map (·.ov)).filterMap Value.ownBlock).Nodup) (hv : ∀ b, v.ownBlock = some b → b < N) (hd : ∀ r ∈ d, ∀ b, r.ov.ownBlock = some b → b < N)
    (hr : ∀ b, r.ov.ownBlock = some b → N ≤ b) : ((v :: (d ++ [r]).map (·.ov)).filterMap Value.ownBlock).Nodup := by
  rw [List.map_append, ← List.cons_append, List.filterMap_append, List.nodup_append]
  refine ⟨h, ?_, ?_⟩
  · cases e : r.ov.ownBlock <;> simp [e]
  · intro a ha b hb e
    subst e
    rw [List.mem_filterMap] at ha hb
    obtain ⟨x, hx, hxa⟩ := ha
    obtain ⟨y, hy, hya⟩ := hb
    simp only [List.map_cons, List.map_nil, List.mem_singleton] at hy
    subst hy
    have h1 := hr a hya
    rcases List.mem_cons.1 hx with rfl | hx
    · have := hv a hxa; omega
    · obtain ⟨r', hr', rfl⟩ := List.mem_map.1 hx
      have := hd r' hr' a hxa; omega
theorem later_at (d l : List Rw) (k : Nat) (hd : d.length = k) (hk : k < l.length) {h : k < (d ++ l.drop k).length} : (d ++ l.drop k)[k] = l[k] := by
  subst hd
  rw [List.getElem_append_right (Nat.le_refl _)]
  simp
theorem later_set (d l : List Rw) (k : Nat) (hd : d.length = k) (hk : k < l.length) (r : Rw) : (d ++ l.drop k).set k r = (d ++ [r]) ++ l.drop (k + 1) := by
  subst hd
  rw [List.set_append_right _ _ (Nat.le_refl _), List.append_assoc, Nat.sub_self, List.drop_eq_getElem_cons hk]
  rfl
end Go.Proofs.Ytkecjopojnllnaa
namespace Go
open Go.RowKit
theorem run_append_own2 {P : Program} (w : World) (base : Nat) (t ty e : TypeId) (i : TypeInfo) (z : Value) (size bytes : Nat) (ht : P.underlying t = some (.slice e)) (hi : P.info? e = some i) (hz : i.zero = some z)
    (hsize : i.size = size) (hby : i.bytes = bytes) (hzs : z.cells.size = size) (hsz : 0 < size)
    (v : Value) (n : Nat) (xs : List Value) (hown : w.ownsRow base e size v n xs)
    (a : Addr) (m c : Nat) (news : List Value) (hl : news.length = m * size) (hnews : ∀ j u, news[j]? = some u → w.cell? (a.add j) = some u) (h1 : ∀ u ∈ news, u.oneCell' = true)
    (h63 : n + m ≤ maxLen) (hbytes : (n + m) * bytes ≤ 140737488355328) (hbase : base ≤ w.heap.size) :
    ∃ p cap w', (Builtin.append_ #[t, t] ty #[v, .slice (some a) m c]).run P w = .ok (.slice p (n + m) cap) w' ∧ w'.ownsRow base e size (.slice p (n + m) cap) (n + m) (xs ++ news) ∧ w.grownBy w' v.ownBlock ∧
      ∀ b, (Value.slice p (n + m) cap).ownBlock = some b → v.ownBlock = some b ∨ w.heap.size ≤ b := by
  obtain ⟨v', w', hr, ho, hg, _⟩ := run_append_own (P := P) w base t ty e i z size bytes ht hi hz hsize hby hzs hsz v n xs hown a m c news hl hnews h1 h63 hbytes hbase
  have hsame : ∀ b, v'.ownBlock = some b → v.ownBlock = some b ∨ w.heap.size ≤ b := by
    intro b hb
    rcases hown.2 with ⟨rfl, rfl⟩ | ⟨g, cap, cur, rfl, hbg, hgg, hnc, hcm, hcs, htake⟩
    · have hx : xs = [] := List.eq_nil_of_length_eq_zero (by simpa using hown.1)
      subst hx
      obtain ⟨v2, w2, hr2, ho2, _, _⟩ := run_append_own (P := P) w w.heap.size t ty e i z size bytes ht hi hz hsize hby hzs hsz _ 0 [] (World.ownsRow_nil w _ _ _) a m c news hl hnews h1 h63 hbytes (Nat.le_refl _)
      rw [hr] at hr2
      cases hr2
      exact .inr (ho2.lt b hb).1
    · by_cases hroom : n + m ≤ cap
      · obtain ⟨w2, hr2, _⟩ := run_append_fits (P := P) w base t ty e i size ht hi hsize g n cap xs hown a m c news hl hnews h1 hroom
        rw [hr] at hr2
        cases hr2
        exact .inl hb
      · subst hsize
        have hsmall : n + m ≤ 9223372036854775807 := by simp only [maxLen] at h63; omega
        have hr2 := run_append_grow (P := P) w t ty e i z ht hi hz ⟨g, 0, none⟩ n cap xs hown.1 (hown.cells (g := g) rfl) a m c news hl hnews (by omega) (by omega) (growslice_fits (by omega) (by rw [hby]; exact hbytes))
        rw [hr] at hr2
        cases hr2
        simp only [Value.ownBlock, Option.some.injEq] at hb
        exact .inr (by omega)
  obtain ⟨p, cap, hv⟩ : ∃ p cap, v' = .slice p (n + m) cap := by
    rcases ho.2 with ⟨h4, h5⟩ | ⟨g, cap', _, h4, _⟩
    · exact ⟨_, _, h5 ▸ h4⟩
    · exact ⟨_, _, h4⟩
  subst hv
  exact ⟨p, cap, w', hr, ho, hg, hsame⟩
theorem wpList_append_own2 {P : Program} (w : World) {ops : Array Oper} {rest : List Oper} {o : Oper} {a : Act} {Q : Exit → Act → World → Prop} (hgd : o.guard = none) (s x : Operand) (t : TypeId)
    (ho : o.op = .call { callee := .builtin .append, args := #[s, x], argTypes := #[t, t] })
    (base : Nat) (e : TypeId) (i : TypeInfo) (z : Value) (size bytes : Nat) (ht : P.underlying t = some (.slice e)) (hi : P.info? e = some i) (hz : i.zero = some z)
    (hsize : i.size = size) (hby : i.bytes = bytes) (hzs : z.cells.size = size) (hsz : 0 < size)
    (v : Value) (n : Nat) (xs : List Value) (hs : a.eval s = v) (hown : w.ownsRow base e size v n xs)
    (ad : Addr) (m c : Nat) (news : List Value) (hx : a.eval x = .slice (some ad) m c) (hl : news.length = m * size) (hnews : ∀ j u, news[j]? = some u → w.cell? (ad.add j) = some u) (h1 : ∀ u ∈ news, u.oneCell' = true)
    (h63 : n + m ≤ maxLen) (hbytes : (n + m) * bytes ≤ 140737488355328) (hbase : base ≤ w.heap.size)
    (h : ∀ p cap w', Hid (w'.ownsRow base e size (.slice p (n + m) cap) (n + m) (xs ++ news)) → w.grownBy w' v.ownBlock → Hid (∀ b, (Value.slice p (n + m) cap).ownBlock = some b → v.ownBlock = some b ∨ w.heap.size ≤ b) →
      wpList P ops Q rest (a.put o.dst (.slice p (n + m) cap)) w') : wpList P ops Q (o :: rest) a w := by
  refine wpList_plain hgd fun K hK => ?_
  obtain ⟨p, cap, w', hr, h2, h3, h4⟩ := run_append_own2 (P := P) w base t o.type e i z size bytes ht hi hz hsize hby hzs hsz v n xs hown ad m c news hl hnews h1 h63 hbytes hbase
  unfold Oper.wp
  simp [execOp, ho, resolve, invoke, builtin, hs, hx, hr, Result.andThen]
  exact hK _ _ (h p cap w' h2 h3 h4)
theorem step_append_own2 {P : Program} {ops : Array Oper} {o : Oper} {a : Act} {w : World} {K : Act → World → Prop} {Q : Exit → Act → World → Prop} {E : Prop} (hgd : o.guard = none) (s x : Operand) (t : TypeId)
    (ho : o.op = .call { callee := .builtin .append, args := #[s, x], argTypes := #[t, t] })
    (base : Nat) (e : TypeId) (i : TypeInfo) (z : Value) (size bytes : Nat) (ht : P.underlying t = some (.slice e)) (hi : P.info? e = some i) (hz : i.zero = some z)
    (hsize : i.size = size) (hby : i.bytes = bytes) (hzs : z.cells.size = size) (hsz : 0 < size)
    (v : Value) (n : Nat) (xs : List Value) (hs : a.eval s = v) (hown : w.ownsRow base e size v n xs)
    (ad : Addr) (m c : Nat) (news : List Value) (hx : a.eval x = .slice (some ad) m c) (hl : news.length = m * size) (hnews : ∀ j u, news[j]? = some u → w.cell? (ad.add j) = some u) (h1 : ∀ u ∈ news, u.oneCell' = true)
    (h63 : n + m ≤ maxLen) (hbytes : (n + m) * bytes ≤ 140737488355328) (hbase : base ≤ w.heap.size)
    (h : ∀ p cap w', Hid (w'.ownsRow base e size (.slice p (n + m) cap) (n + m) (xs ++ news)) → w.grownBy w' v.ownBlock → Hid (∀ b, (Value.slice p (n + m) cap).ownBlock = some b → v.ownBlock = some b ∨ w.heap.size ≤ b) →
      K (a.put o.dst (.slice p (n + m) cap)) w') : if Region.wanted o (yielded ops a.tmps) = true then Oper.wp P o a w K Q else E := by
  have hw : Region.wanted o (yielded ops a.tmps) = true := by simp [Region.wanted, hgd]
  rw [if_pos hw]
  obtain ⟨p, cap, w', hr, h2, h3, h4⟩ := run_append_own2 (P := P) w base t o.type e i z size bytes ht hi hz hsize hby hzs hsz v n xs hown ad m c news hl hnews h1 h63 hbytes hbase
  unfold Oper.wp
  simp [execOp, ho, resolve, invoke, builtin, hs, hx, hr, Result.andThen]
  exact h p cap w' h2 h3 h4
/-- copy OF ELEMENTS OF SEVERAL CELLS, into a row that is known whole. -/
theorem run_copy_elems {P : Program} (w : World) (dT sT ty elem : TypeId) (size : Nat) (g o dLen dCap : Nat) (ad : Addr) (sLen sCap : Nat) (cur : List Value) (t : TypeId) (cs : List Value)
    (hu : P.underlying dT = some (.slice elem)) (hs : (P.info? elem).map (·.size) = some size) (hg : w.heap[g]? = some (.cells cur.toArray t (0, 0))) (m : Nat) (hm : Nat.min sLen dLen = m) (hn : cs.length = m * size)
    (hsrc : ∀ j v, cs[j]? = some v → w.cell? (ad.add j) = some v) (hfit : o + cs.length ≤ cur.length) (h1 : ∀ v ∈ cs, v.oneCell' = true) :
    ∃ w', (Builtin.copy_ #[dT, sT] ty #[.slice (some ⟨g, o, none⟩) dLen dCap, .slice (some ad) sLen sCap]).run P w = .ok (goInt m) w' ∧
      w'.heap[g]? = some (.cells (splice cur o cs).toArray t (0, 0)) ∧ w.grownBy w' (some g) := by
  have hl := run_loadCells_list (P := P) w ad cs hsrc
  have hst := run_storeCells_at P g o t cs 0 cur.toArray w hg (by simpa using hfit) h1
  refine ⟨w.setRow g (splice cur o cs).toArray, ?_, setRow_heap w g _ _ t _ hg, ⟨rfl, rfl, rfl, by simp [World.setRow], fun k _ hk => setRow_other w g k _ (fun e => hk (by simp [e]))⟩⟩
  cases hq : P.info? elem with
  | none => simp [hq] at hs
  | some i =>
    have hi : i.size = size := by simpa [hq] using hs
    rw [hn] at hl
    simp [Builtin.copy_, run_underlying hu, Builtin.lenOf, Builtin.firstCells, sizeOf, typeInfo, hq, hi, hm, hl, hst, splice]
theorem wpList_copy_cells {P : Program} {w : World} {ops : Array Oper} {rest : List Oper} {o : Oper} {a : Act} {Q : Exit → Act → World → Prop} (hgd : o.guard = none) (d s : Operand) (dT sT : TypeId)
    (ho : o.op = .call { callee := .builtin .copy, args := #[d, s], argTypes := #[dT, sT] }) (elem : TypeId) (size : Nat) (hu : P.underlying dT = some (.slice elem)) (hsz : (P.info? elem).map (·.size) = some size)
    (g off dLen dCap : Nat) (hd : a.eval d = .slice (some ⟨g, off, none⟩) dLen dCap) (ad : Addr) (sLen sCap : Nat) (hs : a.eval s = .slice (some ad) sLen sCap)
    (cur : List Value) (t : TypeId) (hg : w.heap[g]? = some (.cells cur.toArray t (0, 0))) (cs : List Value) (m : Nat) (hm : Nat.min sLen dLen = m) (hn : cs.length = m * size)
    (hsrc : ∀ j v, cs[j]? = some v → w.cell? (ad.add j) = some v) (hfit : off + cs.length ≤ cur.length) (h1 : ∀ v ∈ cs, v.oneCell' = true)
    (h : ∀ w', Hid (w'.heap[g]? = some (.cells (splice cur off cs).toArray t (0, 0))) → w.grownBy w' (some g) → wpList P ops Q rest (a.put o.dst (goInt m)) w') : wpList P ops Q (o :: rest) a w := by
  refine wpList_plain hgd fun K hK => ?_
  obtain ⟨w', hr, h2, h3⟩ := run_copy_elems (P := P) w dT sT o.type elem size g off dLen dCap ad sLen sCap cur t cs hu hsz hg m hm hn hsrc hfit h1
  unfold Oper.wp
  simp [execOp, ho, resolve, invoke, builtin, hd, hs, hr, Result.andThen]
  exact hK _ _ (h w' h2 h3)
theorem step_copy_cells {P : Program} {ops : Array Oper} {o : Oper} {a : Act} {w : World} {K : Act → World → Prop} {Q : Exit → Act → World → Prop} {E : Prop} (hgd : o.guard = none) (d s : Operand) (dT sT : TypeId)
    (ho : o.op = .call { callee := .builtin .copy, args := #[d, s], argTypes := #[dT, sT] }) (elem : TypeId) (size : Nat) (hu : P.underlying dT = some (.slice elem)) (hsz : (P.info? elem).map (·.size) = some size)
    (g off dLen dCap : Nat) (hd : a.eval d = .slice (some ⟨g, off, none⟩) dLen dCap) (ad : Addr) (sLen sCap : Nat) (hs : a.eval s = .slice (some ad) sLen sCap)
    (cur : List Value) (t : TypeId) (hg : w.heap[g]? = some (.cells cur.toArray t (0, 0))) (cs : List Value) (m : Nat) (hm : Nat.min sLen dLen = m) (hn : cs.length = m * size)
    (hsrc : ∀ j v, cs[j]? = some v → w.cell? (ad.add j) = some v) (hfit : off + cs.length ≤ cur.length) (h1 : ∀ v ∈ cs, v.oneCell' = true)
    (h : ∀ w', Hid (w'.heap[g]? = some (.cells (splice cur off cs).toArray t (0, 0))) → w.grownBy w' (some g) → K (a.put o.dst (goInt m)) w') :
    if Region.wanted o (yielded ops a.tmps) = true then Oper.wp P o a w K Q else E := by
  have hw : Region.wanted o (yielded ops a.tmps) = true := by simp [Region.wanted, hgd]
  rw [if_pos hw]
  obtain ⟨w', hr, h2, h3⟩ := run_copy_elems (P := P) w dT sT o.type elem size g off dLen dCap ad sLen sCap cur t cs hu hsz hg m hm hn hsrc hfit h1
  unfold Oper.wp
  simp [execOp, ho, resolve, invoke, builtin, hd, hs, hr, Result.andThen]
  exact h w' h2 h3
/-- append INTO A ROW KNOWN WHOLE WHERE THERE IS ROOM, as a step of a region that draws. -/
theorem step_append_row {P : Program} {ops : Array Oper} {o : Oper} {a : Act} {w : World} {K : Act → World → Prop} {Q : Exit → Act → World → Prop} {E : Prop} (hgd : o.guard = none) (s x : Operand) (t : TypeId)
    (ho : o.op = .call { callee := .builtin .append, args := #[s, x], argTypes := #[t, t] }) (e : TypeId) (i : TypeInfo) (size : Nat) (ht : P.underlying t = some (.slice e)) (hi : P.info? e = some i) (hsize : i.size = size)
    (g n cap : Nat) (hs : a.eval s = .slice (some ⟨g, 0, none⟩) n cap) (cur : List Value) (hg : w.heap[g]? = some (.cells cur.toArray e (0, 0)))
    (sp : Option Addr) (m c : Nat) (news : List Value) (hx : a.eval x = .slice sp m c) (hsp : 0 < m → ∃ ad, sp = some ad ∧ ∀ j u, news[j]? = some u → w.cell? (ad.add j) = some u) (hsn : ∃ ad, sp = some ad)
    (hl : news.length = m * size) (h1 : ∀ u ∈ news, u.oneCell' = true) (hsz : 0 < size)
    (N : Nat) (hN : n + m = N) (hroom : n + m ≤ cap) (hfit : n * size + news.length ≤ cur.length)
    (h : ∀ w', Hid (w'.heap[g]? = some (.cells (splice cur (n * size) news).toArray e (0, 0))) → w.grownBy w' (some g) → K (a.put o.dst (.slice (some ⟨g, 0, none⟩) N cap)) w') :
    if Region.wanted o (yielded ops a.tmps) = true then Oper.wp P o a w K Q else E := by
  have hw : Region.wanted o (yielded ops a.tmps) = true := by simp [Region.wanted, hgd]
  rw [if_pos hw]
  subst hsize
  subst hN
  obtain ⟨ad, hsp', hn⟩ : ∃ ad, sp = some ad ∧ ∀ j u, news[j]? = some u → w.cell? (ad.add j) = some u := by
    by_cases h0 : 0 < m
    · exact hsp h0
    · obtain ⟨ad, h2⟩ := hsn
      have : news = [] := List.eq_nil_of_length_eq_zero (by rw [hl, show m = 0 by omega, Nat.zero_mul])
      subst this
      exact ⟨ad, h2, fun j u hu => by simp at hu⟩
  subst hsp'
  have hrun := run_append_room (P := P) w t o.type e i ht hi g n cap cur.toArray hg ad m c news hl hn h1 hroom (by simpa using hfit)
  unfold Oper.wp
  simp [execOp, ho, resolve, invoke, builtin, hs, hx, hrun, Result.andThen]
  refine h _ (show _ = _ from ?_) ⟨rfl, rfl, rfl, by simp [World.setRow], fun k _ hk => setRow_other w g k _ (fun e => hk (by simp [e]))⟩
  have := setRow_heap w g cur.toArray ((cur.take (n * i.size)) ++ news ++ cur.drop (n * i.size + news.length)).toArray e (0, 0) hg
  simpa [splice] using this
/-- clear OF A STRETCH OF A ROW KNOWN WHOLE. -/
theorem wpList_clear_row {P : Program} {w : World} {ops : Array Oper} {rest : List Oper} {o : Oper} {a : Act} {Q : Exit → Act → World → Prop} (hgd : o.guard = none) (s : Operand) (t : TypeId)
    (ho : o.op = .call { callee := .builtin .clear, args := #[s], argTypes := #[t] }) (e : TypeId) (i : TypeInfo) (z : Value) (ht : P.underlying t = some (.slice e)) (hi : P.info? e = some i) (hz : i.zero = some z)
    (g off n c : Nat) (hs : a.eval s = .slice (some ⟨g, off, none⟩) n c) (cur : List Value) (te : TypeId) (hg : w.heap[g]? = some (.cells cur.toArray te (0, 0)))
    (hz1 : ∀ u ∈ (Builtin.zeroCells z.cells n).toList, u.oneCell' = true) (hfit : off + (Builtin.zeroCells z.cells n).toList.length ≤ cur.length) (hn : 0 < n)
    (h : ∀ w', Hid (w'.heap[g]? = some (.cells (splice cur off (Builtin.zeroCells z.cells n).toList).toArray te (0, 0))) → w.grownBy w' (some g) → wpList P ops Q rest (a.put o.dst (.tuple #[])) w') :
    wpList P ops Q (o :: rest) a w := by
  refine wpList_plain hgd fun K hK => ?_
  have hst := run_storeCells_at P g off te (Builtin.zeroCells z.cells n).toList 0 cur.toArray w hg (by simpa using hfit) hz1
  simp only [Nat.add_zero] at hst
  have hrun : (Builtin.clear_ #[t] o.type #[.slice (some ⟨g, off, none⟩) n c]).run P w = .ok (.tuple #[]) (w.setRow g (splice cur off (Builtin.zeroCells z.cells n).toList).toArray) := by
    obtain ⟨m, rfl⟩ : ∃ m, n = m + 1 := ⟨n - 1, by omega⟩
    simp [Builtin.clear_, run_underlying ht, zeroValue, typeInfo, hi, hz, hst, splice]
  unfold Oper.wp
  simp [execOp, ho, resolve, invoke, builtin, hs, hrun, Result.andThen]
  exact hK _ _ (h _ (show _ = _ from setRow_heap w g _ _ te _ hg) ⟨rfl, rfl, rfl, by simp [World.setRow], fun k _ hk => setRow_other w g k _ (fun e => hk (by simp [e]))⟩)
end Go
namespace Go.Proofs.Ytkecjopojnllnaa
open Go.RowKit Go.Deep Go.Joins
theorem zero_one : ∀ u ∈ (Builtin.zeroCells (Value.agg #[.string .empty, .string .empty, .slice none 0 0]).cells 1).toList, u.oneCell' = true := by
  intro u hu
  have e : (Builtin.zeroCells (Value.agg #[.string .empty, .string .empty, .slice none 0 0]).cells 1).toList = [.string .empty, .string .empty, .slice none 0 0] := by kernel_rfl
  rw [e] at hu
  simp only [List.mem_cons, List.not_mem_nil, or_false] at hu
  rcases hu with rfl | rfl | rfl <;> rfl
def OwnE (w : World) (B : Nat) (v : Value) (l : List Rw) : Prop :=
  w.ownsRow B 58 3 v l.length (rowCells l) ∧ (∀ r ∈ l, w.ownsRow B 76 2 r.ov r.opens.length (wrCells r.opens)) ∧ (l.filterMap fun r => r.ov.ownBlock).Nodup
theorem OwnD.toE {w : World} {B : Nat} {v : Value} {l : List Rw} (h : OwnD w B v l) : OwnE w B v l := by
  refine ⟨h.1, h.2.1, ?_⟩
  have := h.2.2
  rw [List.filterMap_cons] at this
  have e : (l.map (·.ov)).filterMap Value.ownBlock = l.filterMap fun r => r.ov.ownBlock := by rw [List.filterMap_map]; rfl
  rw [e] at this
  split at this
  · exact this
  · exact (List.nodup_cons.1 this).2
theorem OwnE.below {w w' : World} {B : Nat} {v : Value} {l : List Rw} (h : OwnE w B v l) (hb : Below w.heap.size w w') : OwnE w' B v l :=
  ⟨owns_below h.1 hb, fun r hr => owns_below (h.2.1 r hr) hb, h.2.2⟩
theorem OwnE.reads {w : World} {B : Nat} {v : Value} {l : List Rw} (h : OwnE w B v l) : Reads w v 3 l.length (rowCells l) := reads_of_owns h.1
theorem OwnE.opens {w : World} {B : Nat} {v : Value} {l : List Rw} (h : OwnE w B v l) : Opens w l := fun r hr => reads_of_owns (h.2.1 r hr)
theorem OwnE.one {w : World} {B : Nat} {v : Value} {l : List Rw} (h : OwnE w B v l) : ∀ u ∈ rowCells l, u.oneCell' = true := by
  intro u hu
  obtain ⟨r, hr, hu⟩ := List.mem_flatMap.1 hu
  simp only [List.mem_cons, List.not_mem_nil, or_false] at hu
  rcases hu with rfl | rfl | rfl
  · rfl
  · rfl
  · obtain ⟨p, cap, h⟩ := owns_shape (h.2.1 r hr)
    rw [h]; rfl
theorem owns_block {w : World} {B n size g : Nat} {e : TypeId} {v : Value} {xs : List Value} (h : w.ownsRow B e size v n xs) (hg : v.ownBlock = some g) : ∃ cur, w.heap[g]? = some (.cells cur e (0, 0)) := by
  rcases h.2 with ⟨h1, _⟩ | ⟨g', cap, cur, h1, _, h2, _⟩
  · rw [h1] at hg; cases hg
  · rw [h1] at hg
    simp only [Value.ownBlock, Option.some.injEq] at hg
    subst hg
    exact ⟨cur, h2⟩
/-- A row of files and a row of writes are two blocks: their elements' types differ. -/
theorem rows_apart {w : World} {B n m s1 s2 g : Nat} {e1 e2 : TypeId} {v u : Value} {xs ys : List Value} (h : w.ownsRow B e1 s1 v n xs) (k : w.ownsRow B e2 s2 u m ys) (hne : e1 ≠ e2) (hg : v.ownBlock = some g) : u.ownBlock ≠ some g := by
  intro hu
  obtain ⟨c1, h1⟩ := owns_block h hg
  obtain ⟨c2, h2⟩ := owns_block k hu
  rw [h1] at h2
  simp only [Option.some.injEq, Obj.cells.injEq] at h2
  exact hne h2.2.1
theorem nodup_set : ∀ (l : List Rw) (k : Nat) (r : Rw) (hk : k < l.length), (l.filterMap fun r => r.ov.ownBlock).Nodup → (∀ b, r.ov.ownBlock = some b → l[k].ov.ownBlock = some b ∨ ∀ s ∈ l, s.ov.ownBlock ≠ some b) →
    ((l.set k r).filterMap fun r => r.ov.ownBlock).Nodup
  | [], _, _, h, _, _ => absurd h (by simp)
  | x :: l, 0, r, _, hn, hr => by
    rw [List.set_cons_zero, List.filterMap_cons]
    rw [List.filterMap_cons] at hn
    have hl : (l.filterMap fun r => r.ov.ownBlock).Nodup := by
      split at hn
      · exact hn
      · exact (List.nodup_cons.1 hn).2
    split
    · exact hl
    · rename_i b hb
      refine List.nodup_cons.2 ⟨fun hm => ?_, hl⟩
      obtain ⟨s, hs, hsb⟩ := List.mem_filterMap.1 hm
      rcases hr b hb with h1 | h1
      · have h1' : x.ov.ownBlock = some b := h1
        rw [h1'] at hn
        exact (List.nodup_cons.1 hn).1 hm
      · exact h1 s (List.mem_cons_of_mem _ hs) hsb
  | x :: l, k + 1, r, hk, hn, hr => by
    rw [List.set_cons_succ, List.filterMap_cons]
    rw [List.filterMap_cons] at hn
    have hk' : k < l.length := by simpa using hk
    have hl : (l.filterMap fun r => r.ov.ownBlock).Nodup := by
      split at hn
      · exact hn
      · exact (List.nodup_cons.1 hn).2
    have ih := nodup_set l k r hk' hl fun b hb => (hr b hb).imp id fun h s hs => h s (List.mem_cons_of_mem _ hs)
    split
    · exact ih
    · rename_i b hb
      refine List.nodup_cons.2 ⟨fun hm => ?_, ih⟩
      rw [hb] at hn
      obtain ⟨s, hs, hsb⟩ := List.mem_filterMap.1 hm
      rcases List.mem_or_eq_of_mem_set hs with h1 | h1
      · exact (List.nodup_cons.1 hn).1 (List.mem_filterMap.2 ⟨s, h1, hsb⟩)
      · subst h1
        rcases hr b hsb with h2 | h2
        · exact (List.nodup_cons.1 hn).1 (List.mem_filterMap.2 ⟨l[k], List.getElem_mem _, h2⟩)
        · exact h2 x (List.mem_cons_self ..) hb
/-- What an operation may turn: nothing below B but the cell of the disk. -/
structure Only (B pb : Nat) (w w' : World) : Prop where
  os : w'.os = w.os
  tape : w'.tape = w.tape
  output : w'.output = w.output
  size : w.heap.size ≤ w'.heap.size
  block : ∀ k, k < B → k ≠ pb → w'.heap[k]? = w.heap[k]?
theorem Only.trans {B pb : Nat} {a b c : World} (h : Only B pb a b) (k : Only B pb b c) : Only B pb a c :=
  ⟨k.os.trans h.os, k.tape.trans h.tape, k.output.trans h.output, Nat.le_trans h.size k.size, fun i hi hp => (k.block i hi hp).trans (h.block i hi hp)⟩
theorem only_of_below {B pb : Nat} {a b : World} (h : Below a.heap.size a b) (hB : B ≤ a.heap.size) : Only B pb a b :=
  ⟨h.os, h.tape, h.output, h.size, fun k hk _ => h.block k (by omega)⟩
theorem only_of_grown {B pb : Nat} {a b : World} {row : Option Nat} (h : a.grownBy b row) (hB : B ≤ a.heap.size) (hr : ∀ k, row = some k → B ≤ k) : Only B pb a b :=
  ⟨h.os, h.tape, h.output, h.size, fun k hk _ => h.block k (by omega) (fun e => by have := hr k e.symm; omega)⟩
theorem only_setCell {B pb : Nat} (a : World) (g j : Nat) (u : Value) (hg : B ≤ g ∨ g = pb) : Only B pb a (a.setCell ⟨g, j, none⟩ u) :=
  ⟨rfl, rfl, rfl, by simp [World.setCell], fun k hk hp => Below.heap_setCell _ _ _ _ (by simp; omega)⟩
/-- File number k gets other safe bytes and another row of writes. -/
theorem OwnE.set {w w' : World} {B g n cap : Nat} {l : List Rw} (h : OwnE w B (.slice (some ⟨g, 0, none⟩) n cap) l) (k : Nat) (hk : k < l.length) (r : Rw)
    (hw : ∀ s ∈ l, s.ov.ownBlock ≠ l[k].ov.ownBlock ∨ s.ov.ownBlock = none → w'.ownsRow B 76 2 s.ov s.opens.length (wrCells s.opens)) (hr : w'.ownsRow B 76 2 r.ov r.opens.length (wrCells r.opens))
    (hf : w'.ownsRow B 58 3 (.slice (some ⟨g, 0, none⟩) n cap) l.length (rowCells (l.set k r)))
    (hb : ∀ b, r.ov.ownBlock = some b → l[k].ov.ownBlock = some b ∨ w.heap.size ≤ b) : OwnE w' B (.slice (some ⟨g, 0, none⟩) n cap) (l.set k r) := by
  refine ⟨by rw [List.length_set]; exact hf, fun s hs => ?_, nodup_set l k r hk h.2.2 fun b hb' => (hb b hb').imp id fun h1 s hs e => ?_⟩
  · rw [List.set_eq_take_append_cons_drop, if_pos hk] at hs
    have hnd := h.2.2
    have hsplit : l = l.take k ++ l[k] :: l.drop (k + 1) := by rw [List.getElem_cons_drop, List.take_append_drop]
    rcases List.mem_append.1 hs with hs | hs
    · refine hw s (List.mem_of_mem_take hs) ?_
      by_cases e : s.ov.ownBlock = none
      · exact .inr e
      · refine .inl fun e2 => ?_
        obtain ⟨b, hb⟩ := Option.ne_none_iff_exists'.1 e
        rw [hsplit, List.filterMap_append, List.nodup_append] at hnd
        exact hnd.2.2 b (List.mem_filterMap.2 ⟨s, hs, hb⟩) b (List.mem_filterMap.2 ⟨l[k], List.mem_cons_self .., e2 ▸ hb⟩) rfl
    · rcases List.mem_cons.1 hs with rfl | hs
      · exact hr
      · refine hw s (List.mem_of_mem_drop hs) ?_
        by_cases e : s.ov.ownBlock = none
        · exact .inr e
        · refine .inl fun e2 => ?_
          obtain ⟨b, hb⟩ := Option.ne_none_iff_exists'.1 e
          rw [hsplit, List.filterMap_append, List.nodup_append, List.filterMap_cons, ← e2, hb] at hnd
          exact (List.nodup_cons.1 hnd.2.1).1 (List.mem_filterMap.2 ⟨s, hs, hb⟩)
  · have := ((h.2.1 s hs).lt b e).2
    omega
def opV (kind : Int) (name : ByteArray) (pos : Int) (bytes : ByteArray) : Value := .agg #[.int .i64 kind, .string name, .int .i64 pos, .string bytes]
theorem two_one (a : Int) (s : ByteArray) : ∀ u ∈ [Value.int .i64 a, .string s], u.oneCell' = true := fun u hu => by
  simp at hu; rcases hu with rfl | rfl <;> rfl
/-- The block of the operation's copy. -/
def opCells (kind : Int) (name : ByteArray) (pos : Int) (bytes : ByteArray) : Array Value := #[.int .i64 kind, .string name, .int .i64 pos, .string bytes]
/-- Behind the search: its number in hand, the operation's copy as it was, the disk as it was. -/
def Found (w : World) (kind : Int) (name : ByteArray) (pos : Int) (bytes : ByteArray) (n : Int) (s : Value) (wx : World) : Prop :=
  s = .int .i64 n ∧ Below (w.heap.size + 1) (w.alloc (.cells (opCells kind name pos bytes) 55)) wx
/-- Behind the place's being found or made: file number k is the one. -/
def Placed (w : World) (pb B : Nat) (kind : Int) (name : ByteArray) (pos : Int) (bytes : ByteArray) (fs : List Fl) (k : Nat) (s : Value) (wx : World) : Prop :=
  s = .int .i64 (k : Int) ∧ ∃ v l, wx.heap[pb]? = some (.cells #[v] 24 (0, 0)) ∧ OwnE wx B v l ∧ l.map core = fs ∧ Only B pb w wx ∧ w.heap.size < wx.heap.size ∧ wx.heap[w.heap.size]? = some (.cells (opCells kind name pos bytes) 55 (0, 0))
def newFile (name : ByteArray) : Fl := ⟨name, .empty, []⟩
def insertAt (fs : List Fl) (k : Nat) (f : Fl) : List Fl := fs.take k ++ f :: fs.drop k
/-- Which file it is, and the files with it. -/
def spot (l : List Rw) (name : ByteArray) : List Fl × Nat :=
  if idx (sameName name) l < 0 then (insertAt (l.map core) (placeOf name l).toNat (newFile name), (placeOf name l).toNat) else (l.map core, (idx (sameName name) l).toNat)
theorem wider {w w' : World} {B n m size : Nat} {e : TypeId} {v u : Value} {xs ys : List Value} {e2 : TypeId} {s2 : Nat} (h : w.ownsRow B e size v n xs) (k : w.ownsRow B e2 s2 u m ys) (hne : e ≠ e2) (hg : w.grownBy w' u.ownBlock) : w'.ownsRow B e size v n xs := by
  refine h.kept hg ?_
  cases hb : v.ownBlock with
  | none => exact .inl rfl
  | some b => exact .inr (fun e => rows_apart h k hne hb e.symm)
theorem not_at {w : World} {B n size pb : Nat} {e t : TypeId} {v : Value} {xs : List Value} {c : Array Value} (h : w.ownsRow B e size v n xs) (hp : w.heap[pb]? = some (.cells c t (0, 0))) (hne : e ≠ t) : v.ownBlock ≠ some pb := by
  intro hb
  obtain ⟨c2, h2⟩ := owns_block h hb
  rw [hp] at h2
  simp only [Option.some.injEq, Obj.cells.injEq] at h2
  exact hne h2.2.1.symm
theorem placed_new {w w3 : World} {pb B P : Nat} {kind : Int} {name : ByteArray} {pos : Int} {bytes : ByteArray} {l : List Rw} {v : Value} {q : Option Addr} {n c : Nat} (hnd : (l.filterMap fun r => r.ov.ownBlock).Nodup) (hpl : pb < w.heap.size)
    (ho : w3.ownsRow B 58 3 (.slice q n c) (l.length + 1) (rowCells (l.take P ++ ⟨name, .empty, .slice none 0 0, []⟩ :: l.drop P))) (hop : ∀ r ∈ l, w3.ownsRow B 76 2 r.ov r.opens.length (wrCells r.opens)) (hon : Only B pb w w3)
    (hpb : w3.heap[pb]? = some (.cells #[v] 24 (0, 0))) (hob : w3.heap[w.heap.size]? = some (.cells (opCells kind name pos bytes) 55 (0, 0))) (s : Value) (hs : s = .int .i64 (P : Int)) (hP : P ≤ l.length) :
    Placed w pb B kind name pos bytes (insertAt (l.map core) P (newFile name)) P s (w3.setCell ⟨pb, 0, none⟩ (.slice q n c)) := by
  have hlen : (l.take P ++ ⟨name, .empty, .slice none 0 0, []⟩ :: l.drop P : List Rw).length = l.length + 1 := by simp; omega
  refine ⟨hs, .slice q n c, l.take P ++ ⟨name, .empty, .slice none 0 0, []⟩ :: l.drop P, ?_, ⟨?_, fun r hr => ?_, ?_⟩, ?_, hon.trans (only_setCell _ _ _ _ (.inr rfl)), ?_, ?_⟩
  · rw [heap_setCell_same w3 pb 0 _ 24 _ hpb]; rfl
  · rw [hlen]; exact owns_other ho (not_at ho hpb (by decide)) _ _
  · rcases List.mem_append.1 hr with hr | hr
    · have h := hop r (List.mem_of_mem_take hr)
      exact owns_other h (not_at h hpb (by decide)) _ _
    · rcases List.mem_cons.1 hr with rfl | hr
      · exact World.ownsRow_nil _ _ _ _
      · have h := hop r (List.mem_of_mem_drop hr)
        exact owns_other h (not_at h hpb (by decide)) _ _
  · rw [List.filterMap_append, List.filterMap_cons]
    show (_ ++ List.filterMap _ (l.drop P)).Nodup
    rw [← List.filterMap_append, List.take_append_drop]
    exact hnd
  · unfold insertAt
    rw [List.map_append, List.map_cons, List.map_take, List.map_drop]
    rfl
  · have := hon.size
    have h2 := (Array.getElem?_eq_some_iff.1 hob).1
    simpa [World.setCell] using h2
  · rw [heap_setCell_other w3 _ _ _ (by simp; omega)]
    exact hob
theorem spot_reach (l : List Rw) (name : ByteArray) (h : ∀ r ∈ l, (r.opens.length + 1) * 24 ≤ 140737488355328) : ∀ f ∈ (spot l name).1, (f.opens.length + 1) * 24 ≤ 140737488355328 := by
  have h1 : ∀ f ∈ l.map core, (f.opens.length + 1) * 24 ≤ 140737488355328 := fun f hf => by
    obtain ⟨r, hr, rfl⟩ := List.mem_map.1 hf
    exact h r hr
  unfold spot
  split
  · intro f hf
    unfold insertAt at hf
    rcases List.mem_append.1 hf with hf | hf
    · exact h1 f (List.mem_of_mem_take hf)
    · rcases List.mem_cons.1 hf with rfl | hf
      · simp [newFile]
      · exact h1 f (List.mem_of_mem_drop hf)
  · exact h1
/-- Behind the append and the store. -/
theorem put_done {w wc w2 : World} {pb B g cap n k : Nat} {q2 q3 : Option Addr} {qc2 qc3 : Nat} {v : Value} {l : List Rw} {x : Wr} (hk : k < l.length) (hD : OwnE wc B (.slice (some ⟨g, 0, none⟩) n cap) l) (hv : v = .slice (some ⟨g, 0, none⟩) n cap)
    (hpb : wc.heap[pb]? = some (.cells #[v] 24 (0, 0))) (hov : l[k].ov = .slice q2 l[k].opens.length qc2) (hB : B ≤ wc.heap.size) (ho : Only B pb w wc) (o : Obj)
    (hown3 : w2.ownsRow B 76 2 (.slice q3 (l[k].opens.length + 1) qc3) (l[k].opens.length + 1) (wrCells l[k].opens ++ [.int .i64 x.pos, .string x.bytes]))
    (hg3 : ((wc.drew).alloc o).grownBy w2 (Value.slice q2 l[k].opens.length qc2).ownBlock)
    (hsame : ∀ b, (Value.slice q3 (l[k].opens.length + 1) qc3).ownBlock = some b → (Value.slice q2 l[k].opens.length qc2).ownBlock = some b ∨ ((wc.drew).alloc o).heap.size ≤ b) :
    let w' := w2.setCell ⟨g, k * 3 + 2, none⟩ (.slice q3 (l[k].opens.length + 1) qc3)
    ∃ v' l', w'.heap[pb]? = some (.cells #[v'] 24 (0, 0)) ∧ OwnE w' B v' l' ∧ l'.map core = (l.map core).modify k (fun f => ⟨f.name, f.safe, f.opens ++ [x]⟩) ∧ Only B pb w w' := by
  intro w'
  have hmem : l[k] ∈ l := List.getElem_mem _
  have hpl := (Array.getElem?_eq_some_iff.1 hpb).1
  have hgrow : wc.grownBy w2 l[k].ov.ownBlock := by
    rw [hov]
    exact ⟨hg3.os, hg3.tape, hg3.output, Nat.le_trans (by simp) hg3.size, fun j hj hne => (hg3.block j (by simp; omega) hne).trans (heap_alloc_old (w := wc.drew) o (r := j) (by simpa using hj))⟩
  have hfo : w2.ownsRow B 58 3 (.slice (some ⟨g, 0, none⟩) n cap) l.length (rowCells l) := wider hD.1 (hD.2.1 _ hmem) (by decide) hgrow
  have hn : n = l.length := by
    rcases hD.1.2 with ⟨h, _⟩ | ⟨_, _, _, h, _⟩
    · cases h
    · injection h
  subst hn
  have hgB : B ≤ g := (hD.1.lt g rfl).1
  have hgl : g < wc.heap.size := (hD.1.lt g rfl).2
  have hpb2 : w2.heap[pb]? = some (.cells #[v] 24 (0, 0)) := (hgrow.block pb hpl (fun e => not_at (hD.2.1 _ hmem) hpb (by decide) e.symm)).trans hpb
  have hgp : g ≠ pb := fun e => not_at hD.1 hpb (by decide) (by rw [← e]; rfl)
  have hst := (hfo.stored (k * 3 + 2) (.slice q3 (l[k].opens.length + 1) qc3)).1
  rw [rowCells_set2 l k ⟨l[k].name, l[k].safe, .slice q3 (l[k].opens.length + 1) qc3, l[k].opens ++ [x]⟩ hk rfl rfl] at hst
  have hnew : w2.ownsRow B 76 2 (.slice q3 (l[k].opens.length + 1) qc3) (l[k].opens ++ [x]).length (wrCells (l[k].opens ++ [x])) := owns_snoc hown3
  refine ⟨v, l.set k ⟨l[k].name, l[k].safe, .slice q3 (l[k].opens.length + 1) qc3, l[k].opens ++ [x]⟩, ?_, ?_, ?_, ?_⟩
  · rw [heap_setCell_other w2 _ _ _ (fun e => hgp e.symm)]; exact hpb2
  · rw [hv]
    refine hD.set k hk _ (fun s hs hne => ?_) ?_ hst fun b hb => ?_
    · have h1 := hD.2.1 s hs
      have h2 : w2.ownsRow B 76 2 s.ov s.opens.length (wrCells s.opens) := by
        refine h1.kept hgrow ?_
        rcases hne with h | h
        · exact .inr h
        · exact .inl h
      exact owns_other h2 (fun e => rows_apart h2 hfo (by decide) e rfl) _ _
    · exact owns_other hnew (fun e => rows_apart hnew hfo (by decide) e rfl) _ _
    · rw [hov]
      refine (hsame b hb).imp id fun h => ?_
      simp at h
      omega
  · apply List.ext_getElem?
    intro j
    rw [List.getElem?_map, List.getElem?_set, List.getElem?_modify, List.getElem?_map]
    by_cases e : k = j
    · subst e
      simp [hk, core]
    · simp [e]
  · exact ho.trans ((only_of_grown hgrow hB fun j hj => ((hD.2.1 _ hmem).lt j hj).1).trans (only_setCell _ _ _ _ (.inl hgB)))
theorem crashRows_length (l : List Rw) (fs : List Ft) : (crashRows l fs).length = l.length := by simp [crashRows]
/-- A world in which all that was there is as it was. -/
structure Near (w : World) where
  wx : World
  near : Below w.heap.size w wx
theorem wp_region_near {P : Program} {id : Nat} {Q : Exit → Act → World → Prop} {a : Act} {w : World} {l : List Oper} (hm : P.follows .mixedOrders = true) (hB : Region.lexB .any l.toArray = true)
    (h : wpQuiet P l.toArray (fun w' => ∃ p : Near w, w' = p.wx) (fun a' => ∀ w', (∃ p : Near w, w' = p.wx) → Q .normal a' w') l a) : (Code.region id l.toArray true).wp P Q a w :=
  wp_region_quiet (C := fun w' => ∃ p : Near w, w' = p.wx) hm hB ⟨⟨w.drew, (Below.refl _ _).drew⟩, rfl⟩ (by simpa using h)
theorem near_call {P : Program} {f : FuncId} {args : Array Value} {w : World} {p : Near w} {v : Value} (h : Calls P f args p.wx fun e w' => e = .returned v ∧ Below p.wx.heap.size p.wx w') :
    Calls P f args p.wx fun e w'' => e = .returned v ∧ ∃ p : Near w, w'' = p.wx :=
  h.mono fun _ _ ⟨he, hb⟩ => ⟨he, ⟨_, below_then p.near hb⟩, rfl⟩
/-- Disk and crashed disk lie as they should. -/
structure SafeAt (w wr : World) (l : List Rw) (fs : List Ft) (v v' : Value) (B : Nat) : Prop where
  below : Below w.heap.size w wr
  lt : w.heap.size < wr.heap.size
  one : wr.cell? ⟨w.heap.size, 0, none⟩ = some v
  ltB : B < wr.heap.size
  two : wr.cell? ⟨B, 0, none⟩ = some v'
  rows : Reads wr v' 3 l.length (rowCells (crashRows l fs))
theorem SafeAt.next {w wr wx : World} {l : List Rw} {fs : List Ft} {v v' : Value} {B : Nat} (h : SafeAt w wr l fs v v' B) (hb : Below wr.heap.size wr wx) : SafeAt w wx l fs v v' B :=
  ⟨below_then h.below hb, Nat.lt_of_lt_of_le h.lt hb.size, below_cell hb h.one, Nat.lt_of_lt_of_le h.ltB hb.size, below_cell hb h.two, h.rows.below hb⟩
theorem core_at {l m : List Rw} (hc : l.map core = m.map core) (i : Nat) (h : i < l.length) (h' : i < m.length) : m[i].name = l[i].name ∧ m[i].safe = l[i].safe ∧ m[i].opens = l[i].opens := by
  have e : core m[i] = core l[i] := by
    have h1 : (l.map core)[i]? = (m.map core)[i]? := by rw [hc]
    rw [List.getElem?_map, List.getElem?_map, List.getElem?_eq_getElem h, List.getElem?_eq_getElem h'] at h1
    exact (Option.some.inj h1).symm
  unfold core at e
  simp only [Fl.mk.injEq] at e
  exact e
theorem crash_mem {l : List Rw} {fs : List Ft} {r : Rw} (h : r ∈ crashRows l fs) : ∃ r0 ∈ l, ∃ f, r = crashRow r0 f := by
  obtain ⟨i, hi, rfl⟩ := List.getElem_of_mem h
  have hi' : i < l.length := by rw [crashRows_length] at hi; exact hi
  exact ⟨l[i], List.getElem_mem _, fs[i]?, crashRows_at l fs i hi hi'⟩
theorem crash_one (l : List Rw) (fs : List Ft) : ∀ r ∈ crashRows l fs, r.ov.oneCell' = true := fun r hr => by
  obtain ⟨r0, h0, f, rfl⟩ := crash_mem hr
  rfl
theorem crash_twice (r : Rw) (f g : Option Ft) : core (crashRow (crashRow r f) g) = core (crashRow r f) := by
  have e : survOf (crashRow r f) g = [] := by cases g <;> rfl
  unfold core
  show Fl.mk r.name (layB (crashRow r f).safe (survOf (crashRow r f) g)) [] = Fl.mk r.name (crashRow r f).safe []
  rw [e]
  rfl
theorem crashRows_twice (l : List Rw) (fs ms : List Ft) : (crashRows (crashRows l fs) ms).map core = (crashRows l fs).map core := by
  apply List.ext_getElem
  · simp only [List.length_map, crashRows_length]
  · intro i h1 h2
    simp only [List.length_map] at h1 h2
    rw [List.getElem_map, List.getElem_map, crashRows_at _ ms i h1 h2, crashRows_at l fs i h2 (by rwa [crashRows_length] at h2), crash_twice]
/-- The crashed disk in its variable, the first disk in its own. -/
structure CalmAt (w wr : World) (l : List Rw) (fs : List Ft) (v v' : Value) (B : Nat) : Prop where
  below : Below w.heap.size w wr
  lt : w.heap.size < wr.heap.size
  one : wr.cell? ⟨w.heap.size, 0, none⟩ = some v
  ltB : B < wr.heap.size
  two : wr.cell? ⟨B, 0, none⟩ = some v'
  rows : Reads wr v' 3 l.length (rowCells (crashRows l fs))
/-- The fates that were built so far. -/
structure FatesAt (wr : World) (B : Nat) (u : Value) (fs : List Ft) : Prop where
  own : wr.ownsRow B 91 3 u fs.length (ftCells fs)
  wholes : ∀ f ∈ fs, wr.ownsRow B 4 1 f.wv f.whole.length (boolCells f.whole)
theorem FatesAt.below {wr w' : World} {B : Nat} {u : Value} {fs : List Ft} (h : FatesAt wr B u fs) (hb : Below wr.heap.size wr w') : FatesAt w' B u fs :=
  ⟨owns_below h.own hb, fun f hf => owns_below (h.wholes f hf) hb⟩
theorem FatesAt.reads {wr : World} {B : Nat} {u : Value} {fs : List Ft} (h : FatesAt wr B u fs) : Reads wr u 3 fs.length (ftCells fs) := reads_of_owns h.own
theorem FatesAt.are {wr : World} {B : Nat} {u : Value} {fs : List Ft} (h : FatesAt wr B u fs) : Wholes wr fs := fun f hf => reads_of_owns (h.wholes f hf)
/-- The fate that is being built. -/
structure TAt (wo wr : World) (v : Value) (m : Nat) : Prop where
  below : Below wo.heap.size wo wr
  lies : wr.heap[wo.heap.size]? = some (.cells #[v, .int .i64 (-1), .int .i64 0] 91 (0, 0))
  own : wr.ownsRow (wo.heap.size + 1) 4 1 v m (boolCells (List.replicate m true))
theorem TAt.start (wo : World) : TAt wo (wo.alloc (.cells #[.slice none 0 0, .int .i64 (-1), .int .i64 0] 91)) (.slice none 0 0) 0 :=
  ⟨below1 wo _, heap_alloc_new _ _, World.ownsRow_nil _ _ _ _⟩
theorem TAt.lt {wo wr : World} {v : Value} {m : Nat} (h : TAt wo wr v m) : wo.heap.size < wr.heap.size := (Array.getElem?_eq_some_iff.1 h.lies).1
theorem TAt.c0 {wo wr : World} {v : Value} {m : Nat} (h : TAt wo wr v m) : wr.cell? ⟨wo.heap.size, 0, none⟩ = some v := by simp [World.cell?, h.lies]
theorem TAt.c1 {wo wr : World} {v : Value} {m : Nat} (h : TAt wo wr v m) : wr.cell? ⟨wo.heap.size, 1, none⟩ = some (.int .i64 (-1)) := by simp [World.cell?, h.lies]
theorem TAt.c2 {wo wr : World} {v : Value} {m : Nat} (h : TAt wo wr v m) : wr.cell? ⟨wo.heap.size, 2, none⟩ = some (.int .i64 0) := by simp [World.cell?, h.lies]
theorem TAt.fz {wo wr : World} {v : Value} {m : Nat} (h : TAt wo wr v m) : wr.frozen? ⟨wo.heap.size, 0, none⟩ = false := by simp [World.frozen?, h.lies]
theorem TAt.lies5 {wo wr w5 : World} {v : Value} {m : Nat} (h : TAt wo wr v m) {o : Obj} (hg : (wr.alloc o).grownBy w5 v.ownBlock) : w5.heap[wo.heap.size]? = some (.cells #[v, .int .i64 (-1), .int .i64 0] 91 (0, 0)) := by
  have hlt := h.lt
  refine (hg.block _ (by simp; omega) fun e => ?_).trans ?_
  · have := (h.own.lt _ e.symm).1; omega
  · exact (heap_alloc_old _ _ hlt).trans h.lies
theorem TAt.next {wo wr w5 : World} {v v' : Value} {m : Nat} (h : TAt wo wr v m) {o : Obj} (hg : (wr.alloc o).grownBy w5 v.ownBlock)
    (ho : w5.ownsRow (wo.heap.size + 1) 4 1 v' (m + 1) (boolCells (List.replicate m true) ++ [.bool true])) : TAt wo (w5.setCell ⟨wo.heap.size, 0, none⟩ v') v' (m + 1) := by
  refine ⟨?_, ?_, ?_⟩
  · exact ((h.below.alloc (Nat.le_of_lt h.lt) o).grown hg (by have := h.lt; simp; omega) fun k hk => by have := (h.own.lt k hk).1; omega).setCell (Nat.le_refl _) _
  · rw [heap_setCell_same w5 _ 0 _ 91 _ (h.lies5 hg)]; rfl
  · have e : boolCells (List.replicate (m + 1) true) = boolCells (List.replicate m true) ++ [.bool true] := by
      unfold boolCells
      rw [List.replicate_succ', List.map_append]; rfl
    rw [e]
    exact owns_other ho (fun hb => by have := (ho.lt _ hb).1; omega) _ _
theorem fates_below {wo wr w6 : World} {B : Nat} {u v : Value} {m : Nat} {fs : List Ft} {w1 : World} (h : FatesAt wo B u fs) (ht : TAt wo wr v m) (hb : Below B w1 wo) (hB : B ≤ wo.heap.size) (o : Obj) (hg : (wr.alloc o).grownBy w6 u.ownBlock) : Below B w1 w6 :=
  ((hb.trans (ht.below.mono hB)).alloc (by have := ht.lt; omega) o).grown hg (by have := ht.lt; simp; omega) fun k hk => (h.own.lt k hk).1
theorem nb_refl (w : World) : Below w.heap.size w w := Below.refl _ _
theorem nb_drew {w W : World} (h : Below w.heap.size w W) : Below w.heap.size w W.drew := h.drew
theorem nb_alloc {w W : World} (h : Below w.heap.size w W) (o : Obj) : Below w.heap.size w (W.alloc o) := h.alloc h.size o
theorem nb_set {w W : World} {b : Nat} (hb : w.heap.size ≤ b) (h : Below w.heap.size w W) (j : Nat) (v : Value) : Below w.heap.size w (W.setCell ⟨b, j, none⟩ v) := h.setCell hb v
/-- A disk's variable. -/
def VarAt (W : World) (b : Nat) (v : Value) : Prop := W.heap[b]? = some (.cells #[v] 24 (0, 0))
theorem VarAt.c {W : World} {b : Nat} {v : Value} (h : VarAt W b v) : W.cell? ⟨b, 0, none⟩ = some v := by unfold VarAt at h; simp [World.cell?, h]
theorem VarAt.f {W : World} {b : Nat} {v : Value} (h : VarAt W b v) : W.frozen? ⟨b, 0, none⟩ = false := by unfold VarAt at h; simp [World.frozen?, h]
theorem VarAt.lt {W : World} {b : Nat} {v : Value} (h : VarAt W b v) : b < W.heap.size := (Array.getElem?_eq_some_iff.1 h).1
theorem VarAt.keep {w W : World} {b : Nat} {v : Value} (h : VarAt w b v) (hb : Below w.heap.size w W) : VarAt W b v := (hb.block b h.lt).trans h
theorem VarAt.new (w : World) (v : Value) : VarAt (w.alloc (.cells #[v] 24)) w.heap.size v := heap_alloc_new _ _
theorem VarAt.old {w : World} {b : Nat} {v : Value} (h : VarAt w b v) (o : Obj) : VarAt (w.alloc o) b v := (heap_alloc_old _ _ h.lt).trans h
theorem VarAt.new2 (w : World) (o : Obj) (v : Value) : VarAt ((w.alloc o).alloc (.cells #[v] 24)) (w.heap.size + 1) v := by
  have h := VarAt.new (w.alloc o) v
  rwa [World.size_alloc] at h
theorem VarAt.same {w : World} {b : Nat} {v : Value} (h : VarAt w b v) (u : Value) : VarAt (w.setCell ⟨b, 0, none⟩ u) b u := by
  unfold VarAt at *
  rw [heap_setCell_same w b 0 _ 24 u h]; rfl
theorem VarAt.other {w : World} {b c : Nat} {v : Value} (h : VarAt w b v) (hc : c ≠ b) (u : Value) : VarAt (w.setCell ⟨c, 0, none⟩ u) b v := (heap_setCell_other w ⟨c, 0, none⟩ b u (fun e => hc e.symm)).trans h
theorem VarAt.two {w : World} {b c : Nat} {v u : Value} (h : VarAt w b v) (k : VarAt w c u) (hne : b ≠ c) :
    (∀ x, (w.setCell ⟨c, 0, none⟩ x).cell? ⟨b, 0, none⟩ = some v) ∧ ∀ x, (w.setCell ⟨b, 0, none⟩ x).cell? ⟨c, 0, none⟩ = some u :=
  ⟨fun x => (h.other hne.symm x).c, fun x => (k.other hne x).c⟩
theorem VarAt.drew {w : World} {b : Nat} {v : Value} (h : VarAt w b v) : VarAt w.drew b v := h
theorem kept1 {w W : World} {v : Value} (h : Below (w.alloc (.cells #[v] 24)).drew.heap.size (w.alloc (.cells #[v] 24)).drew W) : VarAt W w.heap.size v := VarAt.keep (VarAt.drew (VarAt.new w v)) h
theorem kept2 {w W : World} {v u : Value} (h : Below ((w.alloc (.cells #[v] 24)).alloc (.cells #[u] 24)).drew.heap.size ((w.alloc (.cells #[v] 24)).alloc (.cells #[u] 24)).drew W) : VarAt W w.heap.size v ∧ VarAt W (w.heap.size + 1) u :=
  ⟨VarAt.keep (VarAt.drew ((VarAt.new w v).old _)) h, VarAt.keep (VarAt.drew (VarAt.new2 w _ u)) h⟩
theorem back0 {w W : World} (h : Below w.heap.size w W) : Below w.heap.size w W := h
theorem back1 {w W : World} {v : Value} (h : Below (w.alloc (.cells #[v] 24)).heap.size (w.alloc (.cells #[v] 24)) W) : Below w.heap.size w W ∧ VarAt W w.heap.size v := ⟨below_then (below1 _ _) h, (VarAt.new w v).keep h⟩
theorem back2 {w W : World} {v u : Value} (h : Below ((w.alloc (.cells #[v] 24)).alloc (.cells #[u] 24)).heap.size ((w.alloc (.cells #[v] 24)).alloc (.cells #[u] 24)) W) :
    Below w.heap.size w W ∧ VarAt W w.heap.size v ∧ VarAt W (w.heap.size + 1) u := ⟨below_then (below2 _ _ _) h, ((VarAt.new w v).old _).keep h, (VarAt.new2 w _ u).keep h⟩
/-- Both crashed disks, in rows of the call's own. -/
structure Both (wo W : World) (n : Nat) (va vb : Value) (ra rb : List Rw) : Prop where
  below : Below wo.heap.size wo W
  a : W.ownsRow wo.heap.size 58 3 va n (rowCells ra)
  b : W.ownsRow wo.heap.size 58 3 vb n (rowCells rb)
theorem Both.start {wo w5 w6 : World} {n : Nat} {va vb : Value} {ra rb : List Rw} (h5 : Hid (w5.ownsRow wo.heap.size 58 3 va n (rowCells ra))) (h6 : Hid (w6.ownsRow wo.heap.size 58 3 vb n (rowCells rb))) (hb : Below wo.heap.size wo w6) (hm : Below w5.heap.size w5 w6) :
    Both wo w6 n va vb ra rb := ⟨hb, owns_below h5.out hm, h6.out⟩
theorem Both.alloc {wo W : World} {n : Nat} {va vb : Value} {ra rb : List Rw} (h : Both wo W n va vb ra rb) (o : Obj) : Both wo (W.alloc o) n va vb ra rb :=
  ⟨nb_alloc h.below o, owns_below h.a (below1 W o), owns_below h.b (below1 W o)⟩
theorem Both.set {wo W : World} {n b : Nat} {u va vb : Value} {ra rb : List Rw} (hb : wo.heap.size ≤ b) (hv : VarAt W b u) (h : Both wo W n va vb ra rb) (x : Value) : Both wo (W.setCell ⟨b, 0, none⟩ x) n va vb ra rb :=
  ⟨nb_set hb h.below _ _, owns_other h.a (not_at h.a hv (by decide)) _ _, owns_other h.b (not_at h.b hv (by decide)) _ _⟩
/-- Both crashed disks in their variables. -/
structure Two (wo W : World) (A B n : Nat) (va vb : Value) (ra rb : List Rw) : Prop where
  both : Both wo W n va vb ra rb
  a : VarAt W A va
  b : VarAt W B vb
theorem two1 {wo w6 : World} {n : Nat} {va vb : Value} {ra rb : List Rw} (h : Both wo w6 n va vb ra rb) : Two wo ((w6.alloc (.cells #[va] 24)).alloc (.cells #[vb] 24)) w6.heap.size (w6.heap.size + 1) n va vb ra rb :=
  ⟨(h.alloc _).alloc _, (VarAt.new _ _).old _, VarAt.new2 _ _ _⟩
theorem two1' {wo w6 : World} {n : Nat} {va vb : Value} {ra rb : List Rw} (h : Both wo w6 n va vb ra rb) : Two wo ((w6.alloc (.cells #[vb] 24)).alloc (.cells #[va] 24)) (w6.heap.size + 1) w6.heap.size n va vb ra rb :=
  ⟨(h.alloc _).alloc _, VarAt.new2 _ _ _, (VarAt.new _ _).old _⟩
theorem new_set {w6 : World} {A : Nat} {va vb : Value} : VarAt ((w6.setCell ⟨A, 0, none⟩ va).alloc (.cells #[vb] 24)) w6.heap.size vb := by
  have h := VarAt.new (w6.setCell ⟨A, 0, none⟩ va) vb
  rwa [World.size_setCell] at h
theorem two2 {wo w6 : World} {n A : Nat} {va vb u : Value} {ra rb : List Rw} (h : Both wo w6 n va vb ra rb) (hv : VarAt w6 A u) (hA : wo.heap.size ≤ A) : Two wo ((w6.setCell ⟨A, 0, none⟩ va).alloc (.cells #[vb] 24)) A w6.heap.size n va vb ra rb :=
  ⟨(Both.set hA hv h _).alloc _, (hv.same va).old _, new_set⟩
theorem two2' {wo w6 : World} {n B : Nat} {va vb u : Value} {ra rb : List Rw} (h : Both wo w6 n va vb ra rb) (hv : VarAt w6 B u) (hB : wo.heap.size ≤ B) : Two wo ((w6.setCell ⟨B, 0, none⟩ vb).alloc (.cells #[va] 24)) w6.heap.size B n va vb ra rb :=
  ⟨(Both.set hB hv h _).alloc _, new_set, (hv.same vb).old _⟩
theorem two3 {wo w6 : World} {n A B : Nat} {va vb u u' : Value} {ra rb : List Rw} (h : Both wo w6 n va vb ra rb) (hv : VarAt w6 A u) (hk : VarAt w6 B u') (hA : wo.heap.size ≤ A) (hB : wo.heap.size ≤ B) (hne : A ≠ B) :
    Two wo ((w6.setCell ⟨A, 0, none⟩ va).setCell ⟨B, 0, none⟩ vb) A B n va vb ra rb :=
  ⟨Both.set hB (hk.other hne _) (Both.set hA hv h _) _, (hv.same va).other hne.symm _, (hk.other hne va).same vb⟩
/-- Where all lies while the files are gone through. -/
structure AllAt (w wr : World) (l : List Rw) (fs : List Ft) (v va vb : Value) (A B : Nat) : Prop where
  below : Below w.heap.size w wr
  one : wr.cell? ⟨w.heap.size, 0, none⟩ = some v
  two : wr.cell? ⟨A, 0, none⟩ = some va
  three : wr.cell? ⟨B, 0, none⟩ = some vb
  rowsA : Reads wr va 3 l.length (rowCells (crashRows l fs))
  rowsB : Reads wr vb 3 l.length (rowCells (crashRows l []))
theorem AllAt.next {w wr wx : World} {l : List Rw} {fs : List Ft} {v va vb : Value} {A B : Nat} (h : AllAt w wr l fs v va vb A B) (hb : Below wr.heap.size wr wx) : AllAt w wx l fs v va vb A B :=
  ⟨below_then h.below hb, below_cell hb h.one, below_cell hb h.two, below_cell hb h.three, h.rowsA.below hb, h.rowsB.below hb⟩
theorem reads_one {w : World} (r : Rw) (o : Obj) : Reads ((w.alloc (.cells #[.string r.name, .string r.safe, r.ov] 58)).alloc o) (.slice (some ⟨w.heap.size, 0, none⟩) 1 1) 3 1 (rowCells [r]) := by
  refine ⟨rfl, .inr ⟨_, 1, rfl, Nat.le_refl _, by unfold maxLen; omega, fun j u hu => ?_⟩⟩
  rw [add_lit]
  rcases j with _ | _ | _ | j
  · simpa [rowCells] using hu
  · simpa [rowCells] using hu
  · simpa [rowCells] using hu
  · simp [rowCells] at hu
theorem sameName_self (r : Rw) : sameName r.name r = true := by simp [sameName, sameN]
end Go.Proofs.Ytkecjopojnllnaa
namespace Go
open Go.RowKit
theorem step_append_reads {P : Program} {ops : Array Oper} {o : Oper} {a : Act} {w : World} {K : Act → World → Prop} {Q : Exit → Act → World → Prop} {E : Prop} (hgd : o.guard = none) (s x : Operand) (t : TypeId)
    (ho : o.op = .call { callee := .builtin .append, args := #[s, x], argTypes := #[t, t] })
    (base : Nat) (e : TypeId) (i : TypeInfo) (z : Value) (size bytes : Nat) (ht : P.underlying t = some (.slice e)) (hi : P.info? e = some i) (hz : i.zero = some z)
    (hsize : i.size = size) (hby : i.bytes = bytes) (hzs : z.cells.size = size) (hsz : 0 < size)
    (v : Value) (n : Nat) (xs : List Value) (hs : a.eval s = v) (hown : w.ownsRow base e size v n xs)
    (src : Value) (m : Nat) (cells : List Value) (hx : a.eval x = src) (hr : Proofs.Ytkecjopojnllnaa.Reads w src size m cells) (h1 : ∀ u ∈ cells, u.oneCell' = true)
    (h63 : n + m ≤ maxLen) (hbytes : (n + m) * bytes ≤ 140737488355328) (hbase : base ≤ w.heap.size)
    (h : ∀ p cap w', Hid (w'.ownsRow base e size (.slice p (n + m) cap) (n + m) (xs ++ cells)) → w.grownBy w' v.ownBlock → K (a.put o.dst (.slice p (n + m) cap)) w') :
    if Region.wanted o (yielded ops a.tmps) = true then Oper.wp P o a w K Q else E := by
  obtain ⟨hl, hr⟩ := hr
  rcases hr with ⟨rfl, rfl⟩ | ⟨ad, cap, rfl, _, _, hc⟩
  · have hnil : cells = [] := List.eq_nil_of_length_eq_zero (by simpa using hl)
    subst hnil
    have hw : Region.wanted o (yielded ops a.tmps) = true := by simp [Region.wanted, hgd]
    rw [if_pos hw]
    have hrun := run_append_owned_none (P := P) (w := w) base t o.type e i size ht hi v n xs hown
    unfold Oper.wp
    simp [execOp, ho, resolve, invoke, builtin, hs, hx, hrun, Result.andThen]
    obtain ⟨p, cap, rfl⟩ : ∃ p cap, v = .slice p n cap := by
      rcases hown.2 with ⟨h1, h2⟩ | ⟨g, cap, _, h1, _⟩
      · exact ⟨_, _, h2 ▸ h1⟩
      · exact ⟨_, _, h1⟩
    refine h p cap w ?_ ⟨rfl, rfl, rfl, Nat.le_refl _, fun _ _ _ => rfl⟩
    show w.ownsRow base e size _ _ _
    rw [List.append_nil]
    exact hown
  · exact step_append_own2 hgd s x t ho base e i z size bytes ht hi hz hsize hby hzs hsz v n xs hs hown ad m cap cells hx hl hc h1 h63 hbytes hbase fun p cap w' h2 h3 _ => h p cap w' h2 h3
end Go
namespace Go.Proofs.Ytkecjopojnllnaa
open Go.RowKit Go.Deep Go.Joins
theorem opens_of_ownE {w : World} {B : Nat} {v : Value} {l : List Rw} (h : OwnE w B v l) : Opens w l := fun r hr => reads_of_owns (h.2.1 r hr)
/-- An empty row that is the call's own. -/
theorem owns_empty {w : World} {B g : Nat} {e : TypeId} {size : Nat} (hg : w.heap[g]? = some (.cells #[] e (0, 0))) (hB : B ≤ g) : w.ownsRow B e size (.slice (some ⟨g, 0, none⟩) 0 0) 0 [] :=
  ⟨by simp, .inr ⟨g, 0, #[], rfl, hB, hg, Nat.le_refl _, Nat.zero_le _, by simp, by simp⟩⟩
theorem VarAt.grown {w w' : World} {b : Nat} {v : Value} {B n size : Nat} {e : TypeId} {u : Value} {xs : List Value} (h : VarAt w b v) (ho : w.ownsRow B e size u n xs) (hne : e ≠ 24) (hg : w.grownBy w' u.ownBlock) : VarAt w' b v :=
  (hg.block b h.lt (fun e => not_at ho h hne e.symm)).trans h
end Go.Proofs.Ytkecjopojnllnaa
namespace Go
open Go.RowKit
theorem step_append_first {P : Program} {ops : Array Oper} {o : Oper} {a : Act} {w : World} {K : Act → World → Prop} {Q : Exit → Act → World → Prop} {E : Prop} (hgd : o.guard = none) (s x : Operand) (t : TypeId)
    (ho : o.op = .call { callee := .builtin .append, args := #[s, x], argTypes := #[t, t] })
    (base : Nat) (e : TypeId) (i : TypeInfo) (z : Value) (size bytes : Nat) (ht : P.underlying t = some (.slice e)) (hi : P.info? e = some i) (hz : i.zero = some z)
    (hsize : i.size = size) (hby : i.bytes = bytes) (hzs : z.cells.size = size) (hsz : 0 < size)
    (v : Value) (hs : a.eval s = v) (hown : w.ownsRow base e size v 0 [])
    (src : Value) (m : Nat) (cells : List Value) (hx : a.eval x = src) (hr : Proofs.Ytkecjopojnllnaa.Reads w src size m cells) (h1 : ∀ u ∈ cells, u.oneCell' = true)
    (h63 : m ≤ maxLen) (hbytes : m * bytes ≤ 140737488355328) (hbase : base ≤ w.heap.size)
    (h : ∀ p cap w', Hid (w'.ownsRow base e size (.slice p m cap) m cells) → w.grownBy w' v.ownBlock → K (a.put o.dst (.slice p m cap)) w') :
    if Region.wanted o (yielded ops a.tmps) = true then Oper.wp P o a w K Q else E :=
  step_append_reads hgd s x t ho base e i z size bytes ht hi hz hsize hby hzs hsz v 0 [] hs hown src m cells hx hr h1 (by omega) (by rw [Nat.zero_add]; exact hbytes) hbase fun p cap w' h2 h3 => by
    rw [Nat.zero_add, List.nil_append] at h2
    rw [Nat.zero_add]
    exact h p cap w' h2 h3
end Go
namespace Go.Proofs.Ytkecjopojnllnaa
open Go.RowKit Go.Deep Go.Joins
/-- An empty row of operations that is the call's own. -/
def Emp (W : World) (B g : Nat) : Prop := W.ownsRow B 55 4 (.slice (some ⟨g, 0, none⟩) 0 0) 0 []
theorem emp_new {w : World} {B : Nat} (hB : B ≤ w.heap.size) : Emp (w.alloc (.cells #[] 55)) B w.heap.size := owns_empty (heap_alloc_new _ _) hB
theorem emp_new2 {w : World} {B : Nat} {o : Obj} (hB : B ≤ w.heap.size) : Emp ((w.alloc o).alloc (.cells #[] 55)) B (w.heap.size + 1) := by
  have h := owns_empty (w := (w.alloc o).alloc (.cells #[] 55)) (size := 4) (heap_alloc_new (w.alloc o) (.cells #[] 55)) (B := B) (by simp; omega)
  rw [World.size_alloc] at h
  exact h
theorem emp_old {w : World} {B g : Nat} (h : Emp w B g) (o : Obj) : Emp (w.alloc o) B g := owns_below h (below1 w o)
theorem emp_drew {w : World} {B g : Nat} (h : Emp w B g) : Emp w.drew B g := owns_below h (nb_drew (nb_refl _))
theorem varA {w w4 : World} {v : Value} (h : (((w.alloc (.cells #[v] 24)).alloc (.cells #[] 55)).drew).grownBy w4 (some (w.heap.size + 1))) : VarAt w4 w.heap.size v :=
  (h.block _ (by simp [World.drew]; omega) (by simp)).trans ((VarAt.new w v).old _)
theorem varB {w w4 : World} {v : Value} (h : (((w.alloc (.cells #[] 55)).alloc (.cells #[v] 24)).drew).grownBy w4 (some w.heap.size)) : VarAt w4 (w.heap.size + 1) v :=
  (h.block _ (by simp [World.drew]) (by simp)).trans (VarAt.new2 w _ v)
theorem below_grown {wo W w4 : World} {u : Value} {n size : Nat} {e : TypeId} {xs : List Value} (h : Below wo.heap.size wo W) (ho : W.ownsRow wo.heap.size e size u n xs) (hg : W.grownBy w4 u.ownBlock) : Below wo.heap.size wo w4 :=
  h.grown hg h.size fun k hk => (ho.lt k hk).1
/-- A disk that is the call's own, in its variable. -/
structure Var1 (wo W : World) (Y : Nat) (v : Value) (l : List Rw) : Prop where
  below : Below wo.heap.size wo W
  own : OwnE W wo.heap.size v l
  var : VarAt W Y v
theorem ownE_set {W : World} {B b : Nat} {u v : Value} {l : List Rw} (h : OwnE W B v l) (hv : VarAt W b u) (x : Value) : OwnE (W.setCell ⟨b, 0, none⟩ x) B v l :=
  ⟨owns_other h.1 (not_at h.1 hv (by decide)) _ _, fun r hr => owns_other (h.2.1 r hr) (not_at (h.2.1 r hr) hv (by decide)) _ _, h.2.2⟩
theorem var1_set {wo W : World} {Y : Nat} {u v : Value} {l : List Rw} (hb : Below wo.heap.size wo W) (ho : OwnE W wo.heap.size v l) (hv : VarAt W Y u) (hY : wo.heap.size ≤ Y) : Var1 wo (W.setCell ⟨Y, 0, none⟩ v) Y v l :=
  ⟨nb_set hY hb _ _, ownE_set ho hv _, hv.same v⟩
theorem var1_new {wo W : World} {v : Value} {l : List Rw} (hb : Below wo.heap.size wo W) (ho : OwnE W wo.heap.size v l) : Var1 wo (W.alloc (.cells #[v] 24)) W.heap.size v l :=
  ⟨nb_alloc hb _, ho.below (below1 W _), VarAt.new _ _⟩
end Go.Proofs.Ytkecjopojnllnaa
namespace Go
open Go.RowKit
/-- Cells stored one behind the other into a row none of whose cells is frozen. -/
theorem stored_free (P : Program) (g o : Nat) (t : TypeId) (fz : Nat × Nat) (vs : List Value) : ∀ (i : Nat) (cur : Array Value) (w : World), w.heap[g]? = some (.cells cur t fz) → (∀ j, j < cur.size → ¬ (fz.1 ≤ j ∧ j < fz.2)) → o + i + vs.length ≤ cur.size → (∀ v ∈ vs, v.oneCell' = true) →
    ∃ (w' : World) (new : Array Value), (storeCells ⟨g, o, none⟩ vs i).run P w = .ok () w' ∧ w'.heap[g]? = some (.cells new t fz) ∧ new.size = cur.size ∧ (∀ j, new[j]? = if o + i ≤ j ∧ j < o + i + vs.length then vs[j - (o + i)]? else cur[j]?) ∧ w.grownBy w' (some g) := by
  induction vs with
  | nil =>
    intro i cur w hg _ _ _
    refine ⟨w, cur, rfl, hg, rfl, fun j => ?_, ⟨rfl, rfl, rfl, Nat.le_refl _, fun _ _ _ => rfl⟩⟩
    rw [if_neg (by simp)]
  | cons v rest ih =>
    intro i cur w hg hfree hfit h1
    simp only [List.length_cons] at hfit
    have hcell : w.cell? ⟨g, o + i, none⟩ = some (cur[o + i]'(by omega)) := by
      rw [cell_of_row w g _ _ t fz hg]
      exact Array.getElem?_eq_getElem _
    have hfro : w.frozen? ⟨g, o + i, none⟩ = false := by
      obtain ⟨lo, up⟩ := fz
      have := hfree (o + i) (by omega)
      simp only [World.frozen?, hg]
      by_cases h1 : lo ≤ o + i
      · by_cases h2 : o + i < up
        · exact absurd ⟨h1, h2⟩ this
        · simp [h2]
      · simp [h1]
    have hrun : (store ((⟨g, o, none⟩ : Addr).add i) v).run P w = .ok () (w.setCell ⟨g, o + i, none⟩ v) := by
      rw [Proofs.Ytkecjopojnllnaa.add_lit, run_store P w _ v _ (h1 v (by simp)), hcell]
      simp [hfro]
    have hnew : (w.setCell ⟨g, o + i, none⟩ v).heap[g]? = some (.cells (cur.setIfInBounds (o + i) v) t fz) := by
      rw [setCell_eq_setRow w g _ cur t fz v hg]
      exact setRow_heap w g cur _ t fz hg
    obtain ⟨w', new, k1, k2, k3, k4, k5⟩ := ih (i + 1) (cur.setIfInBounds (o + i) v) _ hnew (by simpa using hfree) (by simp; omega) fun u hu => h1 u (by simp [hu])
    refine ⟨w', new, ?_, k2, by simpa using k3, fun j => ?_, ⟨k5.os, k5.tape, k5.output, by have := k5.size; simp [World.setCell] at this ⊢; omega, fun k hk hne => (k5.block k (by simp [World.setCell]; omega) hne).trans (heap_setCell_other w _ k v (fun e => hne (by simp [e])))⟩⟩
    · simp [storeCells, hrun, k1]
    · rw [k4 j]
      by_cases e0 : j = o + i
      · subst e0
        rw [if_neg (by omega), if_pos (by simp), Array.getElem?_setIfInBounds_self_of_lt (by omega)]
        simp
      · by_cases e1 : o + (i + 1) ≤ j ∧ j < o + (i + 1) + rest.length
        · rw [if_pos e1, if_pos (by simp only [List.length_cons]; omega)]
          obtain ⟨d, rfl⟩ : ∃ d, j = o + (i + 1) + d := ⟨j - (o + (i + 1)), by omega⟩
          rw [show o + (i + 1) + d - (o + (i + 1)) = d by omega, show o + (i + 1) + d - (o + i) = d + 1 by omega]
          rfl
        · rw [if_neg e1, if_neg (by simp only [List.length_cons]; omega), Array.getElem?_setIfInBounds_ne (by omega)]
/-- A row of bytes, none of whose cells is frozen: the first of them are L. -/
def RowB (w : World) (g cap : Nat) (L : List UInt8) : Prop :=
  ∃ (cur : Array Value) (fz : Nat × Nat), w.heap[g]? = some (.cells cur 5 fz) ∧ (∀ j, j < cur.size → ¬ (fz.1 ≤ j ∧ j < fz.2)) ∧ cur.size = cap ∧ L.length ≤ cap ∧ ∀ j (h : j < L.length), cur[j]? = some (.int .u8 (L[j].toNat : Int))
theorem RowB.lt {w : World} {g cap : Nat} {L : List UInt8} (h : RowB w g cap L) : g < w.heap.size := by
  obtain ⟨cur, fz, h, _⟩ := h
  exact (Array.getElem?_eq_some_iff.1 h).1
theorem RowB.of_eq {w w' : World} {g cap : Nat} {L : List UInt8} (h : RowB w g cap L) (he : w'.heap[g]? = w.heap[g]?) : RowB w' g cap L := by
  obtain ⟨cur, fz, h0, r⟩ := h
  exact ⟨cur, fz, he.trans h0, r⟩
theorem RowB.cell {w : World} {g cap : Nat} {L : List UInt8} (h : RowB w g cap L) (j : Nat) (hj : j < L.length) : w.cell? ⟨g, j, none⟩ = some (.int .u8 (L[j].toNat : Int)) := by
  obtain ⟨cur, fz, h0, _, _, _, hc⟩ := h
  rw [cell_of_row w g j _ 5 fz h0]
  exact hc j hj
theorem run_bytes_row {P : Program} (w : World) (s : ByteArray) (src dst : TypeId) (hs : P.underlying src = some .string) (hd : P.underlying dst = some (.slice 5)) (he : P.underlying 5 = some (.int .u8)) :
    ∃ cap w', (convert src dst (.string s)).run P w = .ok (.slice (some ⟨w.heap.size, 0, none⟩) s.size cap) w' ∧ RowB w' w.heap.size cap s.data.toList ∧ w.grownBy w' none := by
  have hcap := grownCap_ge w s.size 0 5
  refine ⟨_, _, run_bytes_of_string w src dst 5 s hs hd he, ⟨_, _, heap_alloc_new w.drew _, ?_, ?_, ?_, fun j hj => ?_⟩, ⟨rfl, rfl, rfl, Nat.le_trans (Nat.le_succ w.heap.size) (Nat.le_of_eq (World.size_alloc w.drew _).symm), fun k hk _ => heap_alloc_old w.drew _ hk⟩⟩
  · intro j hj h
    exact absurd hj (by omega)
  · have : s.data.size = s.size := rfl
    simp only [bytesRow, Array.size_append, Array.size_map, Array.size_replicate]
    omega
  · have : s.data.toList.length = s.size := Proofs.Ytkecjopojnllnaa.len_eq s
    omega
  · have : s.data.toList.length = s.size := Proofs.Ytkecjopojnllnaa.len_eq s
    have hj' : j < s.data.size := by simpa using hj
    simp only [bytesRow]
    rw [Array.getElem?_append_left (by simpa using hj'), Array.getElem?_map, Array.getElem?_eq_getElem hj']
    rfl
theorem run_append_byte {P : Program} (w : World) (t ty : TypeId) (i : TypeInfo) (z : Value) (ht : P.underlying t = some (.slice 5)) (hi : P.info? 5 = some i) (hz : i.zero = some z) (hsize : i.size = 1) (hby : i.bytes = 1) (hzs : z.cells.size = 1)
    (g cap : Nat) (L : List UInt8) (hr : RowB w g cap L) (a : Addr) (b : UInt8) (ha : w.cell? a = some (.int .u8 (b.toNat : Int))) (hlen : L.length + 1 ≤ 140737488355328) :
    ∃ g' cap' w', (Builtin.append_ #[t, t] ty #[.slice (some ⟨g, 0, none⟩) L.length cap, .slice (some a) 1 1]).run P w = .ok (.slice (some ⟨g', 0, none⟩) (L.length + 1) cap') w' ∧ RowB w' g' cap' (L ++ [b]) ∧ (g' = g ∨ w.heap.size ≤ g') ∧ w.grownBy w' (some g) := by
  obtain ⟨cur, fz, h0, hfree, hcs, hLc, hc⟩ := hr
  have hnews : ∀ j v, ([.int .u8 (b.toNat : Int)] : List Value)[j]? = some v → w.cell? (a.add j) = some v := fun j v hv => by
    rcases j with _ | j
    · simp at hv
      subst hv
      rw [show a.add 0 = a by simp [Addr.add]]
      exact ha
    · simp at hv
  by_cases hroom : L.length + 1 ≤ cap
  · obtain ⟨w', new, k1, k2, k3, k4, k5⟩ := stored_free P g L.length 5 fz [.int .u8 (b.toNat : Int)] 0 cur w h0 hfree (by simp; omega) (by intro v hv; simp at hv; subst hv; rfl)
    have hf := run_firstCells_some (P := P) w 1 1 a 1 1 [.int .u8 (b.toNat : Int)] (by simp) hnews
    refine ⟨g, cap, w', ?_, ⟨new, fz, k2, by rw [k3]; exact hfree, by omega, by simp; omega, fun j hj => ?_⟩, .inl rfl, k5⟩
    · simp [Builtin.append_, run_underlying ht, sizeOf, typeInfo, hi, Builtin.lenOf, hroom, hf, hsize, Proofs.Ytkecjopojnllnaa.add_lit, k1]
    · rw [k4 j]
      simp only [List.length_append, List.length_cons, List.length_nil] at hj
      by_cases e : j < L.length
      · rw [if_neg (by simp; omega), List.getElem_append_left e]
        exact hc j e
      · obtain rfl : j = L.length := by omega
        rw [if_pos (by simp)]
        simp
  · have hL : ∀ j v, (L.map fun b => Value.int .u8 (b.toNat : Int))[j]? = some v → w.cell? ((⟨g, 0, none⟩ : Addr).add j) = some v := fun j v hv => by
      rw [List.getElem?_map] at hv
      obtain ⟨x, hx, rfl⟩ := Option.map_eq_some_iff.1 hv
      obtain ⟨hj, rfl⟩ := List.getElem?_eq_some_iff.1 hx
      rw [Proofs.Ytkecjopojnllnaa.add_lit, Nat.zero_add, cell_of_row w g j _ 5 fz h0]
      exact hc j hj
    have hgc := grownCap_ge w (L.length + 1) cap 5
    have hrun := run_append_grow (P := P) w t ty 5 i z ht hi hz ⟨g, 0, none⟩ L.length cap _ (by simp [hsize]) hL a 1 1 [.int .u8 (b.toNat : Int)] (by simp [hsize]) hnews (by omega) (by omega) (growslice_fits (by omega) (by rw [hby]; omega))
    refine ⟨_, _, _, hrun, ⟨_, _, heap_alloc_new w.drew _, fun j _ h => absurd h.2 (Nat.not_lt_zero _), ?_, ?_, fun j hj => ?_⟩, .inr (Nat.le_refl _), ⟨rfl, rfl, rfl, Nat.le_trans (Nat.le_succ w.heap.size) (Nat.le_of_eq (World.size_alloc w.drew _).symm), fun k hk _ => heap_alloc_old w.drew _ hk⟩⟩
    · simp only [Array.size_append, List.size_toArray, List.length_map, List.length_cons, List.length_nil, size_zeroCells, hzs]
      omega
    · simp only [List.length_append, List.length_cons, List.length_nil]
      omega
    · rw [Array.getElem?_append_left (by simpa using hj)]
      have e : (L.map fun b => Value.int .u8 (b.toNat : Int)).toArray ++ #[Value.int .u8 (b.toNat : Int)] = ((L ++ [b]).map fun b => Value.int .u8 (b.toNat : Int)).toArray := by simp
      rw [e, List.getElem?_toArray, List.getElem?_map, List.getElem?_eq_getElem hj]
      rfl
theorem run_copy_into {P : Program} (w : World) (dT sT ty : TypeId) (g cap off : Nat) (s : ByteArray) (L : List UInt8) (hu : P.underlying dT = some (.slice 5)) (hs : (P.info? 5).map (·.size) = some 1) (hr : RowB w g cap L) (hfit : off + s.size ≤ L.length) (dCap : Nat) :
    ∃ w', (Builtin.copy_ #[dT, sT] ty #[.slice (some ⟨g, off, none⟩) (L.length - off) dCap, .string s]).run P w = .ok (goInt s.size) w' ∧ RowB w' g cap (spliceB L off s) ∧ w.grownBy w' (some g) := by
  obtain ⟨cur, fz, h0, hfree, hcs, hLc, hc⟩ := hr
  have hlen : s.data.toList.length = s.size := Proofs.Ytkecjopojnllnaa.len_eq s
  obtain ⟨w', new, k1, k2, k3, k4, k5⟩ := stored_free P g off 5 fz (byteCells s) 0 cur w h0 hfree (by rw [byteCells_length]; omega) (by
    intro u hu
    obtain ⟨_, _, rfl⟩ := List.mem_map.1 hu
    rfl)
  rw [byteCells_length] at k4
  have hm : Nat.min s.size (L.length - off) = s.size := Nat.min_eq_left (by omega)
  have hll : (spliceB L off s).length = L.length := by unfold spliceB; exact length_splice _ _ _ (by rw [hlen]; exact hfit)
  refine ⟨w', ?_, ⟨new, fz, k2, by rw [k3]; exact hfree, by omega, by omega, fun j hj => ?_⟩, k5⟩
  · cases hq : P.info? 5 with
    | none => simp [hq] at hs
    | some i =>
      have hi : i.size = 1 := by simpa [hq] using hs
      have hf := firstCells_string (P := P) s w
      simp [Builtin.copy_, run_underlying hu, Builtin.lenOf, sizeOf, typeInfo, hq, hi, hm, hf, k1]
  · suffices h : new[j]? = ((spliceB L off s)[j]?).map (fun b => Value.int .u8 (b.toNat : Int)) by
      rw [h, List.getElem?_eq_getElem hj]; rfl
    have hcj : ∀ d, cur[d]? = (L[d]?).map (fun b => Value.int .u8 (b.toNat : Int)) ∨ L.length ≤ d := fun d => by
      by_cases e : d < L.length
      · exact .inl (by rw [hc d e, List.getElem?_eq_getElem e]; rfl)
      · exact .inr (by omega)
    rw [hll] at hj
    rw [k4 j]
    unfold spliceB splice
    by_cases e : off ≤ j
    · rw [List.getElem?_append_right (by simp; omega)]
      have ht : (L.take off).length = off := by simp; omega
      rw [ht]
      by_cases e2 : j < off + s.size
      · rw [if_pos (by omega), List.getElem?_append_left (by omega)]
        simp [byteCells]
      · rw [if_neg (by omega), List.getElem?_append_right (by omega), List.getElem?_drop]
        rw [show off + s.data.toList.length + (j - off - s.data.toList.length) = j by omega]
        exact (hcj j).resolve_right (by omega)
    · rw [if_neg (by omega), List.getElem?_append_left (by simp; omega), List.getElem?_take_of_lt (by omega)]
      exact (hcj j).resolve_right (by omega)
theorem run_row_string {P : Program} (w : World) (src dst : TypeId) (g cap : Nat) (L : List UInt8) (hs : P.underlying src = some (.slice 5)) (he : P.underlying 5 = some (.int .u8)) (hd : P.underlying dst = some .string) (hr : RowB w g cap L) :
    (convert src dst (.slice (some ⟨g, 0, none⟩) L.length cap)).run P w = .ok (.string ⟨L.toArray⟩) w :=
  run_convert_bytes_back w src dst 5 ⟨g, 0, none⟩ cap L hs he hd fun j hj => by
    rw [Proofs.Ytkecjopojnllnaa.add_lit, Nat.zero_add]
    exact hr.cell j hj
theorem wpList_append_byte {P : Program} {w : World} {ops : Array Oper} {rest : List Oper} {o : Oper} {a : Act} {Q : Exit → Act → World → Prop} (hgd : o.guard = none) (s x : Operand) (t : TypeId)
    (ho : o.op = .call { callee := .builtin .append, args := #[s, x], argTypes := #[t, t] }) (i : TypeInfo) (z : Value) (ht : P.underlying t = some (.slice 5)) (hi : P.info? 5 = some i) (hz : i.zero = some z) (hsize : i.size = 1) (hby : i.bytes = 1) (hzs : z.cells.size = 1)
    (g cap : Nat) (L : List UInt8) (hs : a.eval s = .slice (some ⟨g, 0, none⟩) L.length cap) (hr : RowB w g cap L) (ad : Addr) (b : UInt8) (hx : a.eval x = .slice (some ad) 1 1) (ha : w.cell? ad = some (.int .u8 (b.toNat : Int))) (hlen : L.length + 1 ≤ 140737488355328)
    (h : ∀ g' cap' w', Hid (RowB w' g' cap' (L ++ [b])) → (g' = g ∨ w.heap.size ≤ g') → w.grownBy w' (some g) → wpList P ops Q rest (a.put o.dst (.slice (some ⟨g', 0, none⟩) (L.length + 1) cap')) w') : wpList P ops Q (o :: rest) a w := by
  refine wpList_plain hgd fun K hK => ?_
  obtain ⟨g', cap', w', hrun, h1, h2, h3⟩ := run_append_byte (P := P) w t o.type i z ht hi hz hsize hby hzs g cap L hr ad b ha hlen
  unfold Oper.wp
  simp [execOp, ho, resolve, invoke, builtin, hs, hx, hrun, Result.andThen]
  exact hK _ _ (h g' cap' w' h1 h2 h3)
theorem wpList_copy_into {P : Program} {w : World} {ops : Array Oper} {rest : List Oper} {o : Oper} {a : Act} {Q : Exit → Act → World → Prop} (hgd : o.guard = none) (d s : Operand) (dT sT : TypeId)
    (ho : o.op = .call { callee := .builtin .copy, args := #[d, s], argTypes := #[dT, sT] }) (hu : P.underlying dT = some (.slice 5)) (hsz : (P.info? 5).map (·.size) = some 1)
    (g cap off : Nat) (x : ByteArray) (L : List UInt8) (dCap : Nat) (hd : a.eval d = .slice (some ⟨g, off, none⟩) (L.length - off) dCap) (hs : a.eval s = .string x) (hr : RowB w g cap L) (hfit : off + x.size ≤ L.length)
    (h : ∀ w', Hid (RowB w' g cap (spliceB L off x)) → w.grownBy w' (some g) → wpList P ops Q rest (a.put o.dst (goInt x.size)) w') : wpList P ops Q (o :: rest) a w := by
  refine wpList_plain hgd fun K hK => ?_
  obtain ⟨w', hrun, h1, h2⟩ := run_copy_into (P := P) w dT sT o.type g cap off x L hu hsz hr hfit dCap
  unfold Oper.wp
  simp [execOp, ho, resolve, invoke, builtin, hd, hs, hrun, Result.andThen]
  exact hK _ _ (h w' h1 h2)
end Go
namespace Go.Proofs.Ytkecjopojnllnaa
open Go.RowKit Go.Deep Go.Joins
def padTo (L : List UInt8) (n : Nat) : List UInt8 := L ++ List.replicate (n - L.length) 0
def laidL (L : List UInt8) (x : Wr) : List UInt8 := if wk x = true then spliceB (padTo L (x.pos.toNat + x.bytes.size)) x.pos.toNat x.bytes else L
def laidB (s : ByteArray) (x : Wr) : ByteArray := ⟨(laidL s.data.toList x).toArray⟩
theorem padTo_length (L : List UInt8) (n : Nat) : (padTo L n).length = if L.length < n then n else L.length := by
  unfold padTo
  rw [List.length_append, List.length_replicate]
  split <;> omega
theorem padTo_ge (L : List UInt8) (n : Nat) (h : n ≤ L.length) : padTo L n = L := by
  unfold padTo
  rw [Nat.sub_eq_zero_of_le h]
  simp
theorem padTo_pad (L : List UInt8) (m n : Nat) (h : m ≤ n) : padTo (padTo L m) n = padTo L n := by
  unfold padTo
  rw [List.append_assoc, List.length_append, List.length_replicate, List.replicate_append_replicate]
  congr 2
  omega
theorem splice_append (L Z : List UInt8) (off : Nat) (s : ByteArray) (h : off + s.size ≤ L.length) : spliceB (L ++ Z) off s = spliceB L off s ++ Z := by
  unfold spliceB splice
  rw [len_eq, List.take_append_of_le_length (by omega), List.drop_append_of_le_length (by omega)]
  simp
theorem laidL_length (L : List UInt8) (x : Wr) : (laidL L x).length = grow L.length x := by
  unfold laidL grow
  by_cases hw : wk x = true
  · rw [if_pos hw, if_pos hw]
    unfold spliceB
    rw [length_splice _ _ _ (by rw [len_eq, padTo_length]; split <;> omega), padTo_length]
  · rw [if_neg hw, if_neg hw]
theorem over_pad (L : List UInt8) (x : Wr) (N : Nat) (hN : grow L.length x ≤ N) : over (padTo L N) x = padTo (laidL L x) N := by
  unfold over laidL
  by_cases hw : wk x = true
  · rw [if_pos hw, if_pos hw]
    have hg : grow L.length x = if L.length < x.pos.toNat + x.bytes.size then x.pos.toNat + x.bytes.size else L.length := by unfold grow; rw [if_pos hw]
    have hM : x.pos.toNat + x.bytes.size ≤ N := by rw [hg] at hN; split at hN <;> omega
    have hpl := padTo_length L (x.pos.toNat + x.bytes.size)
    rw [← padTo_pad L (x.pos.toNat + x.bytes.size) N hM]
    have hsl : (spliceB (padTo L (x.pos.toNat + x.bytes.size)) x.pos.toNat x.bytes).length = (padTo L (x.pos.toNat + x.bytes.size)).length := by
      unfold spliceB
      exact length_splice _ _ _ (by rw [len_eq, hpl]; split <;> omega)
    conv => lhs; rw [padTo]
    conv => rhs; rw [padTo]
    rw [splice_append _ _ _ _ (by rw [hpl]; split <;> omega), hsl]
  · rw [if_neg hw, if_neg hw]
theorem overAll_pad (l : List Wr) : ∀ (L : List UInt8) (N : Nat), sizeUp L.length l ≤ N → overAll (padTo L N) l = padTo (l.foldl laidL L) N := by
  induction l with
  | nil => intro L N _; rfl
  | cons x l ih =>
    intro L N hN
    have hN' : sizeUp (grow L.length x) l ≤ N := hN
    show overAll (over (padTo L N) x) l = padTo (l.foldl laidL (laidL L x)) N
    rw [over_pad L x N (Nat.le_trans (sizeUp_ge _ _) hN'), ih _ N (by rw [laidL_length]; exact hN')]
theorem fold_length (l : List Wr) : ∀ L : List UInt8, (l.foldl laidL L).length = sizeUp L.length l := by
  induction l with
  | nil => intro L; rfl
  | cons x l ih =>
    intro L
    show (l.foldl laidL (laidL L x)).length = sizeUp (grow L.length x) l
    rw [ih, laidL_length]
theorem splice_zeros (s : ByteArray) (N : Nat) : spliceB (List.replicate N 0) 0 s = padTo s.data.toList N := by
  unfold spliceB splice padTo
  rw [List.take_zero, List.nil_append, List.drop_replicate, Nat.zero_add]
theorem laidB_list (s : ByteArray) (x : Wr) : (laidB s x).data.toList = laidL s.data.toList x := rfl
theorem layB_fold (s : ByteArray) (l : List Wr) : layB s l = l.foldl laidB s := by
  have hf : ∀ (m : List Wr) (t : ByteArray), (m.foldl laidB t).data.toList = m.foldl laidL t.data.toList := by
    intro m
    induction m with
    | nil => intro t; rfl
    | cons x m ih => intro t; exact ih (laidB t x)
  unfold layB
  split
  · rename_i h
    rw [List.eq_nil_of_length_eq_zero h]
    rfl
  · have e1 : overAll (spliceB (List.replicate (sizeUp s.size l) 0) 0 s) l = l.foldl laidL s.data.toList := by
      rw [splice_zeros s _]
      have h := overAll_pad l s.data.toList (sizeUp s.size l) (by rw [len_eq]; exact Nat.le_refl _)
      rw [h, padTo_ge _ _ (by rw [fold_length, len_eq]; exact Nat.le_refl _)]
    rw [e1, ← hf]
theorem laidB_idle (s : ByteArray) (x : Wr) (h : wk x = false) : laidB s x = s := by
  unfold laidB laidL
  rw [h]
  rfl
theorem laidB_size (s : ByteArray) (x : Wr) : (laidB s x).size = grow s.size x := by
  have h := laidL_length s.data.toList x
  rw [len_eq] at h
  rw [← h]
  show (laidL s.data.toList x).toArray.size = _
  rw [List.size_toArray]
def lenV : Value → Nat
  | .slice _ n _ => n
  | _ => 0
theorem wk_of {pos : Int} {b : ByteArray} (h0 : 0 ≤ pos) (h1 : pos ≤ 1048576) (h2 : 0 < b.size) : wk ⟨pos, b⟩ = true := by
  have h3 : b.toList.isEmpty = false := by
    rw [ByteArray.toList_eq, List.isEmpty_eq_false_iff, ← List.length_pos_iff, len_eq]
    exact h2
  simp [wk, worksB, h3, h0, h1]
theorem laidB_small (s : ByteArray) (x : Wr) (hs : s.size ≤ 1099511627776) (hb : x.bytes.size ≤ 1099510579200) : (laidB s x).size ≤ 1099511627776 := by
  rw [laidB_size]
  unfold grow
  split
  · rename_i hw
    have := wk_pos hw
    split <;> omega
  · exact hs
theorem fold_snoc (l : List Wr) (k : Nat) (h : k < l.length) (s : ByteArray) : (l.take (k + 1)).foldl laidB s = laidB ((l.take k).foldl laidB s) l[k] := foldl_take_succ laidB s l k h
theorem cut_empty {nb : Int} {b : ByteArray} (h : nb ≤ 0 ∨ b.size = 0) (acc : ByteArray) (pos : Int) : laidB acc ⟨pos, cutTo nb b⟩ = acc := by
  refine laidB_idle acc _ ?_
  have hz : (cutTo nb b).size = 0 := by
    unfold cutTo
    rw [ByteArray.size_extract]
    rcases h with h | h
    · rw [if_neg (show ¬ 0 < nb by omega), if_neg (by omega)]
      simp
    · rw [h]
      simp
  have h3 : (cutTo nb b).toList.isEmpty = true := by
    rw [ByteArray.toList_eq, List.isEmpty_iff, ← List.length_eq_zero_iff, len_eq]
    exact hz
  simp [wk, worksB, h3]
theorem cut_all {nb : Int} {b : ByteArray} (h : (b.size : Int) < nb) : cutTo nb b = b := by
  unfold cutTo
  rw [if_pos]
  · simp
  · rw [if_pos (by omega)]
    exact h
theorem cut_some {t : Nat} {b : ByteArray} (h : ¬ (b.size : Int) < (t : Int)) : cutTo (t : Int) b = b.extract 0 t := by
  have e : (if 0 < (t : Int) then (t : Int) else 0) = (t : Int) := by split <;> omega
  unfold cutTo
  rw [e, if_neg h, Int.toNat_natCast]
end Go.Proofs.Ytkecjopojnllnaa
namespace Go
open Go.RowKit
theorem wpList_append_first {P : Program} {w : World} {ops : Array Oper} {rest : List Oper} {o : Oper} {a : Act} {Q : Exit → Act → World → Prop} (hgd : o.guard = none) (s x : Operand) (t : TypeId)
    (ho : o.op = .call { callee := .builtin .append, args := #[s, x], argTypes := #[t, t] })
    (base : Nat) (e : TypeId) (i : TypeInfo) (z : Value) (size bytes : Nat) (ht : P.underlying t = some (.slice e)) (hi : P.info? e = some i) (hz : i.zero = some z)
    (hsize : i.size = size) (hby : i.bytes = bytes) (hzs : z.cells.size = size) (hsz : 0 < size)
    (g : Nat) (hs : a.eval s = .slice (some ⟨g, 0, none⟩) 0 0) (hown : w.ownsRow base e size (.slice (some ⟨g, 0, none⟩) 0 0) 0 [])
    (src : Value) (m : Nat) (cells : List Value) (hx : a.eval x = src) (hr : Proofs.Ytkecjopojnllnaa.Reads w src size m cells) (h1 : ∀ u ∈ cells, u.oneCell' = true)
    (h63 : m ≤ maxLen) (hbytes : m * bytes ≤ 140737488355328) (hbase : base ≤ w.heap.size)
    (h : ∀ p cap w', Hid (w'.ownsRow base e size (.slice p m cap) m cells) → w.grownBy w' (some g) → wpList P ops Q rest (a.put o.dst (.slice p m cap)) w') : wpList P ops Q (o :: rest) a w := by
  obtain ⟨hl, hr⟩ := hr
  rcases hr with ⟨rfl, rfl⟩ | ⟨ad, cap, rfl, _, _, hc⟩
  · have hnil : cells = [] := List.eq_nil_of_length_eq_zero (by simpa using hl)
    subst hnil
    exact wpList_append_own_none hgd s x t ho base e i size ht hi _ 0 [] hs hown hx (h _ _ w hown ⟨rfl, rfl, rfl, Nat.le_refl _, fun _ _ _ => rfl⟩)
  · refine wpList_append_own w hgd s x t ho base e i z size bytes ht hi hz hsize hby hzs hsz _ 0 [] hs hown ad m cap cells hx hl hc h1 (by omega) (by rw [Nat.zero_add]; exact hbytes) hbase ?_
    intro v' w' h2 h3 _
    rw [Nat.zero_add, List.nil_append] at h2
    obtain ⟨p, cap', rfl⟩ : ∃ p cap', v' = .slice p m cap' := by
      rcases h2.2 with ⟨h4, h5⟩ | ⟨g, cap', _, h4, _⟩
      · exact ⟨_, _, h5 ▸ h4⟩
      · exact ⟨_, _, h4⟩
    exact h p cap' w' h2 h3
end Go
namespace Go.Proofs.Ytkecjopojnllnaa
open Go.RowKit Go.Deep Go.Joins
/-- A disk in rows of the call's own (two files may share no row, or may: nothing is said of it). -/
def OwnR (w : World) (B : Nat) (v : Value) (l : List Rw) : Prop :=
  w.ownsRow B 58 3 v l.length (rowCells l) ∧ ∀ r ∈ l, w.ownsRow B 76 2 r.ov r.opens.length (wrCells r.opens)
theorem OwnR.below {w w' : World} {B : Nat} {v : Value} {l : List Rw} (h : OwnR w B v l) (hb : Below w.heap.size w w') : OwnR w' B v l := ⟨owns_below h.1 hb, fun r hr => owns_below (h.2 r hr) hb⟩
theorem OwnR.mono {w : World} {B B' : Nat} {v : Value} {l : List Rw} (h : OwnR w B v l) (hB : B' ≤ B) : OwnR w B' v l := ⟨owns_mono h.1 hB, fun r hr => owns_mono (h.2 r hr) hB⟩
theorem OwnR.opens {w : World} {B : Nat} {v : Value} {l : List Rw} (h : OwnR w B v l) : Opens w l := fun r hr => reads_of_owns (h.2 r hr)
theorem OwnR.set {w : World} {B b : Nat} {u v : Value} {l : List Rw} (h : OwnR w B v l) (hv : VarAt w b u) (x : Value) : OwnR (w.setCell ⟨b, 0, none⟩ x) B v l :=
  ⟨owns_other h.1 (not_at h.1 hv (by decide)) _ _, fun r hr => owns_other (h.2 r hr) (not_at (h.2 r hr) hv (by decide)) _ _⟩
theorem OwnE.toR {w : World} {B : Nat} {v : Value} {l : List Rw} (h : OwnE w B v l) : OwnR w B v l := ⟨h.1, h.2.1⟩
/-- The row of files grows by one. -/
theorem OwnR.grow {w w' : World} {B : Nat} {v v' : Value} {l : List Rw} {r : Rw} (h : OwnR w B v l) (hr : w.ownsRow B 76 2 r.ov r.opens.length (wrCells r.opens)) (hg : w.grownBy w' v.ownBlock)
    (ho : w'.ownsRow B 58 3 v' (l.length + 1) (rowCells l ++ [.string r.name, .string r.safe, r.ov])) : OwnR w' B v' (l ++ [r]) := by
  refine ⟨?_, fun x hx => ?_⟩
  · have e : rowCells (l ++ [r]) = rowCells l ++ [.string r.name, .string r.safe, r.ov] := by simp [rowCells]
    rw [e, List.length_append]
    exact ho
  · rcases List.mem_append.1 hx with hx | hx
    · exact wider (h.2 x hx) h.1 (by decide) hg
    · rw [List.mem_singleton] at hx
      subst hx
      exact wider hr h.1 (by decide) hg
/-- What a round of the copy leaves: the file's variable and its own open writes. -/
structure CopyAt (wr W : World) (ov : Value) (name safe : ByteArray) (opens : List Wr) : Prop where
  below : Below wr.heap.size wr W
  lies : W.heap[wr.heap.size]? = some (.cells #[.string name, .string safe, ov] 58 (0, 0))
  own : W.ownsRow (wr.heap.size + 1) 76 2 ov opens.length (wrCells opens)
theorem copy_at {wr w5 : World} {ov v2 : Value} {name safe : ByteArray} {opens : List Wr}
    (hg : ((wr.alloc (.cells #[.string name, .string safe, ov] 58)).alloc (.cells #[] 76)).grownBy w5 (some (wr.heap.size + 1))) (ho : w5.ownsRow (wr.heap.size + 1) 76 2 v2 opens.length (wrCells opens)) :
    w5.heap[wr.heap.size]? = some (.cells #[.string name, .string safe, ov] 58 (0, 0)) ∧ CopyAt wr (w5.setCell ⟨wr.heap.size, 2, none⟩ v2) v2 name safe opens := by
  have h0 : w5.heap[wr.heap.size]? = some (.cells #[.string name, .string safe, ov] 58 (0, 0)) := by
    refine (hg.block _ (by simp; omega) (by simp)).trans ?_
    exact (heap_alloc_old _ _ (by simp)).trans (heap_alloc_new _ _)
  refine ⟨h0, ?_, ?_, ?_⟩
  · exact ((below2 wr _ _).grown hg (by simp; omega) fun k hk => by cases hk; omega).setCell (Nat.le_refl _) _
  · rw [heap_setCell_same w5 _ 2 _ 58 _ h0]; rfl
  · exact owns_other ho (fun hb => by have := (ho.lt _ hb).1; omega) _ _
theorem new_cells {w : World} {a : Addr} {x : Value} {cs : Array Value} {t : TypeId} : ((w.setCell a x).alloc (.cells cs t)).heap[w.heap.size]? = some (.cells cs t (0, 0)) := by
  have h := heap_alloc_new (w.setCell a x) (.cells cs t)
  rwa [World.size_setCell] at h
theorem copy_var {wr W5 w6 : World} {B Z : Nat} {u ov : Value} {d : List Rw} {name safe : ByteArray} {opens : List Wr} {o : Obj} (hcp : CopyAt wr W5 ov name safe opens) (hown : OwnR wr B u d) (hu : VarAt wr Z u)
    (hg : (W5.alloc o).grownBy w6 u.ownBlock) : VarAt w6 Z u :=
  VarAt.grown ((hu.keep hcp.below).old o) (owns_below (owns_below hown.1 hcp.below) (below1 W5 o)) (by decide) hg
theorem copy_next {wr W5 w6 : World} {B Z : Nat} {u ov v6 : Value} {d : List Rw} {name safe : ByteArray} {opens : List Wr} {o : Obj} (hcp : CopyAt wr W5 ov name safe opens) (hown : OwnR wr B u d) (hu : VarAt wr Z u) (hZ : Z ≤ B) (hB : B ≤ wr.heap.size)
    (hg : (W5.alloc o).grownBy w6 u.ownBlock) (ho : w6.ownsRow B 58 3 v6 (d.length + 1) (rowCells d ++ [.string name, .string safe, ov])) :
    OwnR (w6.setCell ⟨Z, 0, none⟩ v6) B v6 (d ++ [⟨name, safe, ov, opens⟩]) ∧ VarAt (w6.setCell ⟨Z, 0, none⟩ v6) Z v6 ∧ Below Z wr (w6.setCell ⟨Z, 0, none⟩ v6) := by
  have hv := copy_var hcp hown hu hg
  have h1 := (hown.below hcp.below).below (below1 W5 o)
  have h2 : (W5.alloc o).ownsRow B 76 2 ov opens.length (wrCells opens) := owns_mono (owns_below hcp.own (below1 W5 o)) (by omega)
  refine ⟨(h1.grow (r := ⟨name, safe, ov, opens⟩) h2 hg ho).set hv _, hv.same _, ?_⟩
  have hz : Below Z wr W5 := hcp.below.mono (by omega)
  exact ((hz.alloc (by have := hcp.below.size; omega) o).grown hg (by have := hcp.below.size; simp; omega) fun k hk => by have := (h1.1.lt k hk).1; omega).setCell (Nat.le_refl _) _
theorem crashRow_core {r r' : Rw} (h : core r = core r') (f : Option Ft) : core (crashRow r f) = core (crashRow r' f) := by
  unfold core at h
  simp only [Fl.mk.injEq] at h
  obtain ⟨h1, h2, h3⟩ := h
  have e : survOf r f = survOf r' f := by cases f <;> simp [survOf, h3]
  show Fl.mk r.name (layB r.safe (survOf r f)) [] = Fl.mk r'.name (layB r'.safe (survOf r' f)) []
  rw [h1, h2, e]
theorem crashRows_core {l l' : List Rw} (h : l'.map core = l.map core) (fs : List Ft) : (crashRows l' fs).map core = (crashRows l fs).map core := by
  have hl : l'.length = l.length := by simpa using congrArg List.length h
  apply List.ext_getElem
  · simp only [List.length_map, crashRows_length]; exact hl
  · intro i h1 h2
    simp only [List.length_map] at h1 h2
    have a1 : i < l'.length := by rwa [crashRows_length] at h1
    have a2 : i < l.length := by rwa [crashRows_length] at h2
    rw [List.getElem_map, List.getElem_map, crashRows_at l' fs i h1 a1, crashRows_at l fs i h2 a2]
    refine crashRow_core ?_ _
    have h3 : (l'.map core)[i]? = (l.map core)[i]? := by rw [h]
    rw [List.getElem?_map, List.getElem?_map, List.getElem?_eq_getElem a1, List.getElem?_eq_getElem a2] at h3
    exact Option.some.inj h3
theorem surv_no (nb : Int) (l : List Wr) : ∀ i, surv [] (-1) nb i l = [] := by
  induction l with
  | nil => intro i; rfl
  | cons x l ih =>
    intro i
    rw [surv_cons, if_neg (by omega), if_neg (by simp), ih]
theorem rowCells_so (l : List Rw) (k : Nat) (r : Rw) (h : k < l.length) (hn : l[k].name = r.name) : ((rowCells l).set (k * 3 + 1) (.string r.safe)).set (k * 3 + 2) r.ov = rowCells (l.set k r) := by
  rw [← rowCells_set l k r h]
  obtain ⟨g0, _, _⟩ := rowCells_get l k h
  congr 2
  symm
  apply List.ext_getElem?
  intro j
  rw [List.getElem?_set]
  split
  · rename_i e
    subst e
    rw [g0, hn]
    split
    · rfl
    · rename_i hl; rw [List.getElem?_eq_none (by omega)] at g0; cases g0
  · rfl
theorem owns_so {w : World} {B n cap g : Nat} {m : List Rw} (h : w.ownsRow B 58 3 (.slice (some ⟨g, 0, none⟩) n cap) n (rowCells m)) (k : Nat) (hk : k < m.length) (r : Rw) (hn : m[k].name = r.name) :
    ((w.setCell ⟨g, k * 3 + 1, none⟩ (.string r.safe)).setCell ⟨g, k * 3 + 2, none⟩ r.ov).ownsRow B 58 3 (.slice (some ⟨g, 0, none⟩) n cap) n (rowCells (m.set k r)) := by
  rw [← rowCells_so m k r hk hn]
  exact ((h.stored (k * 3 + 1) (.string r.safe)).1.stored (k * 3 + 2) r.ov).1
/-- A round of the crash: the file's bytes and its open writes are put. -/
theorem crash_next {wo wr w6 : World} {B Z g k qc : Nat} {l1 : List Rw} {fs : List Ft} {s : ByteArray} (hlc : (crashRows l1 fs).length = l1.length) (hlt : k < l1.length)
    (hown : wr.ownsRow B 58 3 (.slice (some ⟨g, 0, none⟩) l1.length qc) l1.length (rowCells ((crashRows l1 fs).take k ++ l1.drop k))) (hops : ∀ r ∈ l1, wr.ownsRow B 76 2 r.ov r.opens.length (wrCells r.opens))
    (hz : VarAt wr Z (.slice (some ⟨g, 0, none⟩) l1.length qc)) (hbl : Below B wo wr) (hb : Below wr.heap.size wr w6) (hg1 : B ≤ g) (hB : B ≤ wr.heap.size) (hs : (crashRow l1[k] fs[k]?).safe = s) :
    Hid (((w6.setCell ⟨g, k * 3 + 1, none⟩ (.string s)).setCell ⟨g, k * 3 + 2, none⟩ (.slice none 0 0)).ownsRow B 58 3 (.slice (some ⟨g, 0, none⟩) l1.length qc) l1.length (rowCells ((crashRows l1 fs).take (k + 1) ++ l1.drop (k + 1)))) ∧
    Hid (∀ r ∈ l1, ((w6.setCell ⟨g, k * 3 + 1, none⟩ (.string s)).setCell ⟨g, k * 3 + 2, none⟩ (.slice none 0 0)).ownsRow B 76 2 r.ov r.opens.length (wrCells r.opens)) ∧
    Hid (VarAt ((w6.setCell ⟨g, k * 3 + 1, none⟩ (.string s)).setCell ⟨g, k * 3 + 2, none⟩ (.slice none 0 0)) Z (.slice (some ⟨g, 0, none⟩) l1.length qc)) ∧
    Hid (Below B wo ((w6.setCell ⟨g, k * 3 + 1, none⟩ (.string s)).setCell ⟨g, k * 3 + 2, none⟩ (.slice none 0 0))) := by
  have h6 := owns_below hown hb
  have hgz : g ≠ Z := fun e => by
    have hne := not_at h6 (hz.keep hb) (by decide)
    exact hne (by rw [← e]; rfl)
  have hkm : k < ((crashRows l1 fs).take k ++ l1.drop k).length := by simp [hlc]; omega
  have hat : ((crashRows l1 fs).take k ++ l1.drop k)[k] = l1[k] := mix_at _ _ _ hlc hlt
  refine ⟨?_, fun r hr => ?_, ?_, ?_⟩
  · have hput := owns_so h6 k hkm (crashRow l1[k] fs[k]?) (by rw [hat]; rfl)
    rw [hs, ← crashRows_at l1 fs k (by rw [hlc]; exact hlt) hlt, mix_set _ _ _ hlc hlt] at hput
    rw [crashRows_at l1 fs k (by rw [hlc]; exact hlt) hlt] at hput
    exact hput
  · have h7 := owns_below (hops r hr) hb
    have hne : r.ov.ownBlock ≠ some g := rows_apart h6 h7 (by decide) rfl
    exact owns_other (owns_other h7 hne _ _) hne _ _
  · exact (heap_setCell_other _ _ _ _ (fun e => hgz e.symm)).trans ((heap_setCell_other _ _ _ _ (fun e => hgz e.symm)).trans (hz.keep hb))
  · exact ((hbl.trans (hb.mono hB)).setCell hg1 _).setCell hg1 _
end Go.Proofs.Ytkecjopojnllnaa
namespace Go
open Go.RowKit
theorem wpList_append_reads {P : Program} {w : World} {ops : Array Oper} {rest : List Oper} {o : Oper} {a : Act} {Q : Exit → Act → World → Prop} (hgd : o.guard = none) (s x : Operand) (t : TypeId)
    (ho : o.op = .call { callee := .builtin .append, args := #[s, x], argTypes := #[t, t] })
    (base : Nat) (e : TypeId) (i : TypeInfo) (z : Value) (size bytes : Nat) (ht : P.underlying t = some (.slice e)) (hi : P.info? e = some i) (hz : i.zero = some z)
    (hsize : i.size = size) (hby : i.bytes = bytes) (hzs : z.cells.size = size) (hsz : 0 < size)
    (v : Value) (n : Nat) (xs : List Value) (hs : a.eval s = v) (hown : w.ownsRow base e size v n xs)
    (src : Value) (m : Nat) (cells : List Value) (hx : a.eval x = src) (hr : Proofs.Ytkecjopojnllnaa.Reads w src size m cells) (h1 : ∀ u ∈ cells, u.oneCell' = true)
    (h63 : n + m ≤ maxLen) (hbytes : (n + m) * bytes ≤ 140737488355328) (hbase : base ≤ w.heap.size)
    (h : ∀ p cap w', Hid (w'.ownsRow base e size (.slice p (n + m) cap) (n + m) (xs ++ cells)) → w.grownBy w' v.ownBlock → wpList P ops Q rest (a.put o.dst (.slice p (n + m) cap)) w') : wpList P ops Q (o :: rest) a w := by
  obtain ⟨hl, hr⟩ := hr
  rcases hr with ⟨rfl, rfl⟩ | ⟨ad, cap, rfl, _, _, hc⟩
  · have hnil : cells = [] := List.eq_nil_of_length_eq_zero (by simpa using hl)
    subst hnil
    obtain ⟨p, cap, rfl⟩ := Proofs.Ytkecjopojnllnaa.owns_shape hown
    refine wpList_append_own_none hgd s x t ho base e i size ht hi _ n xs hs hown hx (h p cap w ?_ ⟨rfl, rfl, rfl, Nat.le_refl _, fun _ _ _ => rfl⟩)
    show w.ownsRow base e size _ _ _
    rw [List.append_nil]
    exact hown
  · refine wpList_append_own w hgd s x t ho base e i z size bytes ht hi hz hsize hby hzs hsz v n xs hs hown ad m cap cells hx hl hc h1 h63 hbytes hbase ?_
    intro v' w' h2 h3 _
    obtain ⟨p, cap', rfl⟩ := Proofs.Ytkecjopojnllnaa.owns_shape h2
    exact h p cap' w' h2 h3
end Go
namespace Go.Proofs.Ytkecjopojnllnaa
open Go.RowKit Go.Deep Go.Joins
/-- All files ahead of number k have smaller names. -/
def lowTo (x : ByteArray) (l : List Rw) (k : Nat) : Prop := ∀ j (h : j < l.length), j < k → Op.bytesLess l[j].name.toList x.toList = true
theorem place_end {x : ByteArray} {l : List Rw} (h : lowTo x l l.length) : placeOf x l = (l.length : Int) := by
  have hi : idx (aboveName x) l = -1 := idx_none fun j hj _ => by
    show above l[j].name x = false
    unfold above
    rw [h j hj hj]; rfl
  unfold placeOf
  rw [hi]; rfl
theorem reads_part {w : World} {B n cap g : Nat} {l : List Rw} (h : w.ownsRow B 58 3 (.slice (some ⟨g, 0, none⟩) n cap) n (rowCells l)) (hn : n = l.length) (k : Nat) (hk : k ≤ n) :
    Reads w (.slice (some ⟨g, 0, none⟩) k cap) 3 k (rowCells (l.take k)) ∧ Reads w (.slice (some ⟨g, k * 3, none⟩) (n - k) (cap - k)) 3 (n - k) (rowCells (l.drop k)) := by
  have hsplit : rowCells l = rowCells (l.take k) ++ rowCells (l.drop k) := by
    unfold rowCells
    rw [← List.flatMap_append, List.take_append_drop]
  have hlen : (rowCells (l.take k)).length = k * 3 := by rw [rowCells_length, List.length_take, Nat.min_eq_left (by omega)]
  have hcells := h.cells (g := g) rfl
  have hcap : n ≤ cap ∧ cap ≤ maxLen := by
    rcases h.2 with ⟨h1, _⟩ | ⟨g', cap', cur, h1, _, _, h3, h4, _⟩
    · cases h1
    · simp only [Value.slice.injEq, true_and] at h1
      obtain ⟨_, rfl⟩ := h1
      exact ⟨h3, h4⟩
  refine ⟨⟨hlen, .inr ⟨_, cap, rfl, by omega, hcap.2, fun j u hu => hcells j u ?_⟩⟩, ⟨by rw [rowCells_length, List.length_drop, hn], .inr ⟨_, cap - k, rfl, by omega, by omega, fun j u hu => ?_⟩⟩⟩
  · rw [hsplit, List.getElem?_append_left (List.getElem?_eq_some_iff.1 hu).1]
    exact hu
  · have h2 := hcells (k * 3 + j) u (by rw [hsplit, List.getElem?_append_right (by omega), hlen, Nat.add_sub_cancel_left]; exact hu)
    rw [add_lit] at h2 ⊢
    rw [Nat.zero_add] at h2
    exact h2
/-- What one operation of the reference leaves: the files and the error; it writes into the row of the disk and into new memory alone. -/
def One (w : World) (B : Nat) (v : Value) (fs : List Fl) (er : Int) (e : Ending) (w' : World) : Prop :=
  ∃ (v' : Value) (l' : List Rw), e = .returned (.tuple #[.agg #[v'], .int .i64 er]) ∧ l'.map core = fs ∧ OwnR w' B v' l' ∧ (er ≠ 0 → v' = v) ∧ w.grownBy w' v.ownBlock
theorem below_grownBy {w w' : World} {row : Option Nat} (h : Below w.heap.size w w') : w.grownBy w' row := ⟨h.os, h.tape, h.output, h.size, fun k hk _ => h.block k hk⟩
theorem one_same {w w' : World} {B : Nat} {v : Value} {l : List Rw} {er : Int} (h : OwnR w B v l) (hb : Below w.heap.size w w') : One w B v (l.map core) er (.returned (.tuple #[.agg #[v], .int .i64 er])) w' :=
  ⟨v, l, rfl, rfl, h.below hb, fun _ => rfl, below_grownBy hb⟩
theorem grown_set {w w' : World} {row : Option Nat} {b : Nat} (h : w.grownBy w' row) (hb : some b = row ∨ w.heap.size ≤ b) (j : Nat) (x : Value) : w.grownBy (w'.setCell ⟨b, j, none⟩ x) row :=
  ⟨h.os, h.tape, h.output, by rw [World.size_setCell]; exact h.size, fun k hk hne => (heap_setCell_other w' _ k x (fun e => by
    rcases hb with hb | hb
    · exact hne (by rw [← hb]; exact congrArg some e)
    · have e2 : k = b := e
      omega)).trans (h.block k hk hne)⟩
theorem put_file {W : World} {B g n cap k : Nat} {l : List Rw} (h : OwnR W B (.slice (some ⟨g, 0, none⟩) n cap) l) (hn : n = l.length) (hk : k < l.length) (s : ByteArray) :
    OwnR ((W.setCell ⟨g, k * 3 + 1, none⟩ (.string s)).setCell ⟨g, k * 3 + 2, none⟩ (.slice none 0 0)) B (.slice (some ⟨g, 0, none⟩) n cap) (l.set k ⟨l[k].name, s, .slice none 0 0, []⟩) := by
  subst hn
  refine ⟨?_, fun r hr => ?_⟩
  · rw [List.length_set]
    exact owns_so h.1 k hk ⟨l[k].name, s, .slice none 0 0, []⟩ rfl
  · rcases List.mem_or_eq_of_mem_set hr with hr | rfl
    · have h2 := h.2 r hr
      have hne : r.ov.ownBlock ≠ some g := rows_apart h.1 h2 (by decide) rfl
      exact owns_other (owns_other h2 hne _ _) hne _ _
    · exact World.ownsRow_nil _ _ _ _
theorem VarAt.far {w : World} {b c : Nat} {v : Value} (h : VarAt w b v) (hc : c ≠ b) (j : Nat) (u : Value) : VarAt (w.setCell ⟨c, j, none⟩ u) b v := (heap_setCell_other w ⟨c, j, none⟩ b u (fun e => hc e.symm)).trans h
theorem grown_drew {w W : World} {row : Option Nat} (h : w.grownBy W row) : w.grownBy W.drew row := ⟨h.os, h.tape, h.output, h.size, h.block⟩
theorem OwnR.drew {w : World} {B : Nat} {v : Value} {l : List Rw} (h : OwnR w B v l) : OwnR w.drew B v l := h.below (nb_drew (nb_refl _))
/-- The world behind the stores, as a letter. -/
theorem one_end {K : Act → World → Prop} {Q : Exit → Act → World → Prop} {n : Nat} {a : Act} {w W : World} {B Z R g : Nat} {v : Value} {l : List Rw} (h1 : OwnR W B v l) (h2 : w.grownBy W (some g)) (h3 : VarAt W Z v) (h4 : VarAt W R (.slice none 0 0))
    (h : ∀ W, OwnR W B v l → w.grownBy W (some g) → VarAt W Z v → VarAt W R (.slice none 0 0) → Exit.inBlock n (Exit.then K Q) .normal a W.drew) : Exit.inBlock n (Exit.then K Q) .normal a W.drew := h W h1 h2 h3 h4
/-- An empty row of files that is the call's own. -/
def EmpF (W : World) (B g : Nat) : Prop := W.ownsRow B 58 3 (.slice (some ⟨g, 0, none⟩) 0 0) 0 []
theorem empF_new {w : World} : EmpF (w.alloc (.cells #[] 58)) w.heap.size w.heap.size := owns_empty (heap_alloc_new _ _) (Nat.le_refl _)
theorem empF_drew {w : World} {B g : Nat} (h : EmpF w B g) : EmpF w.drew B g := owns_below h (nb_drew (nb_refl _))
theorem map_erase {α β : Type} (f : α → β) (l : List α) (k : Nat) : (l.eraseIdx k).map f = (l.map f).eraseIdx k := by
  rw [List.eraseIdx_eq_take_drop_succ, List.eraseIdx_eq_take_drop_succ, List.map_append, List.map_take, List.map_drop]
theorem empF_old {w : World} {B g : Nat} (h : EmpF w B g) (o : Obj) : EmpF (w.alloc o) B g := owns_below h (below1 w o)
theorem rowCells_split (l : List Rw) (k : Nat) : rowCells (l.take k) ++ rowCells (l.drop (k + 1)) = rowCells (l.eraseIdx k) := by
  unfold rowCells
  rw [← List.flatMap_append, List.eraseIdx_eq_take_drop_succ]
theorem rows_one_part {l m : List Rw} (h : ∀ u ∈ rowCells l, u.oneCell' = true) (hs : ∀ r ∈ m, r ∈ l) : ∀ u ∈ rowCells m, u.oneCell' = true := fun u hu => h u (by
  obtain ⟨r, hr, hu⟩ := List.mem_flatMap.1 hu
  exact List.mem_flatMap.2 ⟨r, hs r hr, hu⟩)
theorem rows_one {w : World} {B : Nat} {v : Value} {l : List Rw} (h : OwnR w B v l) : ∀ u ∈ rowCells l, u.oneCell' = true := by
  intro u hu
  obtain ⟨r, hr, hu⟩ := List.mem_flatMap.1 hu
  simp only [List.mem_cons, List.not_mem_nil, or_false] at hu
  rcases hu with rfl | rfl | rfl
  · rfl
  · rfl
  · obtain ⟨q, c, e⟩ := owns_shape (h.2 r hr)
    rw [e]; rfl
/-- The world behind the stores, as a letter. -/
theorem one_end2 {K : Act → World → Prop} {Q : Exit → Act → World → Prop} {n : Nat} {a : Act} {w W : World} {row : Option Nat} {B Z R : Nat} {v : Value} {l : List Rw} (h1 : OwnR W B v l) (h2 : w.grownBy W row) (h3 : VarAt W Z v) (h4 : VarAt W R (.slice none 0 0))
    (h : ∀ W, OwnR W B v l → w.grownBy W row → VarAt W Z v → VarAt W R (.slice none 0 0) → Exit.inBlock n (Exit.then K Q) .normal a W) : Exit.inBlock n (Exit.then K Q) .normal a W := h W h1 h2 h3 h4
end Go.Proofs.Ytkecjopojnllnaa
namespace Go
open Go.RowKit
theorem step_append_fresh {P : Program} {ops : Array Oper} {o : Oper} {a : Act} {w : World} {K : Act → World → Prop} {Q : Exit → Act → World → Prop} {E : Prop} (hgd : o.guard = none) (s x : Operand) (t : TypeId)
    (ho : o.op = .call { callee := .builtin .append, args := #[s, x], argTypes := #[t, t] })
    (base : Nat) (e : TypeId) (i : TypeInfo) (z : Value) (size bytes : Nat) (ht : P.underlying t = some (.slice e)) (hi : P.info? e = some i) (hz : i.zero = some z)
    (hsize : i.size = size) (hby : i.bytes = bytes) (hzs : z.cells.size = size) (hsz : 0 < size)
    (g : Nat) (hs : a.eval s = .slice (some ⟨g, 0, none⟩) 0 0) (hown : w.ownsRow base e size (.slice (some ⟨g, 0, none⟩) 0 0) 0 [])
    (src : Value) (m : Nat) (cells : List Value) (hx : a.eval x = src) (hr : Proofs.Ytkecjopojnllnaa.Reads w src size m cells) (h1 : ∀ u ∈ cells, u.oneCell' = true)
    (h63 : m ≤ maxLen) (hbytes : m * bytes ≤ 140737488355328) (hbase : base ≤ w.heap.size)
    (h : ∀ p cap w', Hid (w'.ownsRow base e size (.slice p m cap) m cells) → w.grownBy w' (some g) → K (a.put o.dst (.slice p m cap)) w') :
    if Region.wanted o (yielded ops a.tmps) = true then Oper.wp P o a w K Q else E :=
  step_append_first hgd s x t ho base e i z size bytes ht hi hz hsize hby hzs hsz _ hs hown src m cells hx hr h1 h63 hbytes hbase h
end Go
namespace Go.Proofs.Ytkecjopojnllnaa
open Go.RowKit Go.Deep Go.Joins
/-- An empty row of open writes that is the call's own. -/
def Emp37 (W : World) (B g : Nat) : Prop := W.ownsRow B 76 2 (.slice (some ⟨g, 0, none⟩) 0 0) 0 []
theorem emp37_new {w : World} : Emp37 (w.alloc (.cells #[] 76)) w.heap.size w.heap.size := owns_empty (heap_alloc_new _ _) (Nat.le_refl _)
theorem emp37_new2 {w : World} {o : Obj} : Emp37 ((w.alloc o).alloc (.cells #[] 76)) w.heap.size (w.heap.size + 1) := by
  have h := owns_empty (w := (w.alloc o).alloc (.cells #[] 76)) (size := 2) (heap_alloc_new (w.alloc o) (.cells #[] 76)) (B := w.heap.size) (by simp)
  rw [World.size_alloc] at h
  exact h
theorem emp37_old {w : World} {B g : Nat} (h : Emp37 w B g) (o : Obj) : Emp37 (w.alloc o) B g := owns_below h (below1 w o)
theorem emp37_drew {w : World} {B g : Nat} (h : Emp37 w B g) : Emp37 w.drew B g := owns_below h (nb_drew (nb_refl _))
/-- The row of the one write. -/
def Wr1 (W : World) (b : Nat) (ps : Int) (bs : ByteArray) : Prop := W.heap[b]? = some (.cells #[.int .i64 ps, .string bs] 76 (0, 0))
theorem Wr1.newz {w : World} {x : Addr} {u : Value} {ps : Int} {bs : ByteArray} : Wr1 ((w.setCell x u).alloc (.cells #[.int .i64 ps, .string bs] 76)) w.heap.size ps bs := by
  have h := heap_alloc_new (w.setCell x u) (.cells #[.int .i64 ps, .string bs] 76)
  rw [World.size_setCell] at h
  exact h
theorem put_open {W : World} {B g n cap k : Nat} {l : List Rw} (h : OwnR W B (.slice (some ⟨g, 0, none⟩) n cap) l) (hn : n = l.length) (hk : k < l.length) (r : Rw) (hnm : l[k].name = r.name) (hsf : l[k].safe = r.safe) (hr : W.ownsRow B 76 2 r.ov r.opens.length (wrCells r.opens)) :
    OwnR (W.setCell ⟨g, k * 3 + 2, none⟩ r.ov) B (.slice (some ⟨g, 0, none⟩) n cap) (l.set k r) := by
  subst hn
  refine ⟨?_, fun s hs => ?_⟩
  · rw [← rowCells_set2 l k r hk hnm hsf, List.length_set]
    exact (h.1.stored (k * 3 + 2) r.ov).1
  · rcases List.mem_or_eq_of_mem_set hs with hs | rfl
    · have h2 := h.2 s hs
      exact owns_other h2 (rows_apart h.1 h2 (by decide) rfl) _ _
    · exact owns_other hr (rows_apart h.1 hr (by decide) rfl) _ _
theorem Wr1.new {w : World} {ps : Int} {bs : ByteArray} : Wr1 (w.alloc (.cells #[.int .i64 ps, .string bs] 76)) w.heap.size ps bs := heap_alloc_new _ _
theorem Wr1.new2 {w : World} {o : Obj} {ps : Int} {bs : ByteArray} : Wr1 ((w.alloc o).alloc (.cells #[.int .i64 ps, .string bs] 76)) (w.heap.size + 1) ps bs := by
  have h := heap_alloc_new (w.alloc o) (.cells #[.int .i64 ps, .string bs] 76)
  rw [World.size_alloc] at h
  exact h
theorem Wr1.old {w : World} {b : Nat} {ps : Int} {bs : ByteArray} (h : Wr1 w b ps bs) (o : Obj) : Wr1 (w.alloc o) b ps bs := (heap_alloc_old _ _ (Array.getElem?_eq_some_iff.1 h).1).trans h
theorem Wr1.drew {w : World} {b : Nat} {ps : Int} {bs : ByteArray} (h : Wr1 w b ps bs) : Wr1 w.drew b ps bs := h
theorem Wr1.kept {w w' : World} {b g : Nat} {ps : Int} {bs : ByteArray} (h : Wr1 w b ps bs) (hg : w.grownBy w' (some g)) (hne : b ≠ g) : Wr1 w' b ps bs :=
  (hg.block b (Array.getElem?_eq_some_iff.1 h).1 (fun e => hne (Option.some.inj e))).trans h
theorem Wr1.reads {w : World} {b : Nat} {ps : Int} {bs : ByteArray} (h : Wr1 w b ps bs) : Reads w (.slice (some ⟨b, 0, none⟩) 1 1) 2 1 [.int .i64 ps, .string bs] :=
  ⟨rfl, .inr ⟨_, 1, rfl, Nat.le_refl _, by unfold maxLen; omega, fun j u hu => by
    rw [add_lit, Nat.zero_add, cell_of_row _ _ _ _ 76 _ h]
    simpa using hu⟩⟩
end Go.Proofs.Ytkecjopojnllnaa
