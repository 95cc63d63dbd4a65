/- Open writes laid over safe bytes. -/
import Derived.Test.YtfpdfhncifcghaaB
import Derived.Laws.CopyOwn
import Derived.Deep.RegionLaw
namespace Go
/-- copy OF A STRING's BYTES INTO A ROW OF BYTES THAT IS KNOWN WHOLE. -/
theorem run_copy_string {P : Program} (w : World) (dT sT ty elem : TypeId) (g o dLen dCap : Nat) (s : ByteArray) (cur : Array Value) (t : TypeId)
    (hu : P.underlying dT = some (.slice elem)) (hs : (P.info? elem).map (·.size) = some 1)
    (hg : w.heap[g]? = some (.cells cur t (0, 0))) (hn : s.size ≤ dLen) (hfit : o + s.size ≤ cur.size) :
    (Builtin.copy_ #[dT, sT] ty #[.slice (some ⟨g, o, none⟩) dLen dCap, .string s]).run P w =
      .ok (goInt s.size) (w.setRow g (cur.toList.take o ++ byteCells s ++ cur.toList.drop (o + s.size)).toArray) := by
  have hst := run_storeCells_at P g o t (byteCells s) 0 cur w hg (by rw [byteCells_length]; simpa using hfit) (by
    intro u hu
    obtain ⟨_, _, rfl⟩ := List.mem_map.1 hu
    rfl)
  rw [byteCells_length] at hst
  have hm : Nat.min s.size dLen = s.size := Nat.min_eq_left hn
  cases hq : P.info? elem with
  | none => simp [hq] at hs
  | some i =>
    have hi : i.size = 1 := by simpa [hq] using hs
    have hf := firstCells_string (P := P) s w
    simp [Builtin.copy_, run_underlying hu, Builtin.lenOf, sizeOf, typeInfo, hq, hi, hm, hf, hst]

def spliceB (L : List UInt8) (off : Nat) (s : ByteArray) : List UInt8 := splice L off s.data.toList
def bcells (L : List UInt8) : Array Value := (L.map fun b => Value.int .u8 b.toNat).toArray
theorem bcells_splice (L : List UInt8) (off : Nat) (s : ByteArray) :
    ((bcells L).toList.take off ++ byteCells s ++ (bcells L).toList.drop (off + s.size)).toArray = bcells (spliceB L off s) := by
  unfold bcells spliceB splice byteCells
  rw [show s.data.toList.length = s.size from by rw [Array.length_toList]; rfl]
  simp [List.map_take, List.map_drop, List.append_assoc]

open Go.RowKit in
theorem wpList_copy_string {P : Program} {w : World} {ops : Array Oper} {rest : List Oper} {o : Oper} {a : Act} {Q : Exit → Act → World → Prop} (hgd : o.guard = none) (d s : Operand) (dT sT : TypeId)
    (ho : o.op = .call { callee := .builtin .copy, args := #[d, s], argTypes := #[dT, sT] }) (elem : TypeId) (hu : P.underlying dT = some (.slice elem)) (hsz : (P.info? elem).map (·.size) = some 1)
    (dLen dCap : Nat) (g off : Nat) (hd : a.eval d = .slice (some ⟨g, off, none⟩) dLen dCap) (x : ByteArray) (hs : a.eval s = .string x)
    (L : List UInt8) (t : TypeId) (hg : w.heap[g]? = some (.cells (bcells L) t (0, 0))) (hn : x.size ≤ dLen) (hfit : off + x.size ≤ L.length) (B : Nat) (w0 : World) (hb : Below B w0 w) (hBg : B ≤ g)
    (h : ∀ w', Hid (w'.heap[g]? = some (.cells (bcells (spliceB L off x)) t (0, 0))) → Below B w0 w' → wpList P ops Q rest (a.put o.dst (goInt x.size)) w') :
    wpList P ops Q (o :: rest) a w := by
  refine wpList_plain hgd fun K hK => ?_
  have hrun := run_copy_string (P := P) w dT sT o.type elem g off dLen dCap x (bcells L) t hu hsz hg hn (by simpa [bcells] using hfit)
  unfold Oper.wp
  simp [execOp, ho, resolve, invoke, builtin, hd, hs, hrun, Result.andThen]
  refine hK _ _ (h _ (show _ = _ from ?_) (below_setRow hb hBg _))
  rw [setRow_heap w g _ _ t _ hg]
  have e := bcells_splice L off x
  rw [← e]
  simp

open Go.RowKit in
theorem step_copy_string {P : Program} {ops : Array Oper} {o : Oper} {a : Act} {w : World} {K : Act → World → Prop} {Q : Exit → Act → World → Prop} {E : Prop} (hgd : o.guard = none) (d s : Operand) (dT sT : TypeId)
    (ho : o.op = .call { callee := .builtin .copy, args := #[d, s], argTypes := #[dT, sT] }) (elem : TypeId) (hu : P.underlying dT = some (.slice elem)) (hsz : (P.info? elem).map (·.size) = some 1)
    (dLen dCap : Nat) (g off : Nat) (hd : a.eval d = .slice (some ⟨g, off, none⟩) dLen dCap) (x : ByteArray) (hs : a.eval s = .string x)
    (L : List UInt8) (t : TypeId) (hg : w.heap[g]? = some (.cells (bcells L) t (0, 0))) (hn : x.size ≤ dLen) (hfit : off + x.size ≤ L.length) (B : Nat) (w0 : World) (hb : Below B w0 w) (hBg : B ≤ g)
    (h : ∀ w', Hid (w'.heap[g]? = some (.cells (bcells (spliceB L off x)) t (0, 0))) → Below B w0 w' → K (a.put o.dst (goInt x.size)) w') :
    if Region.wanted o (yielded ops a.tmps) = true then Oper.wp P o a w K Q else E := by
  have hw : Region.wanted o (yielded ops a.tmps) = true := by simp [Region.wanted, hgd]
  rw [if_pos hw]
  have hrun := run_copy_string (P := P) w dT sT o.type elem g off dLen dCap x (bcells L) t hu hsz hg hn (by simpa [bcells] using hfit)
  unfold Oper.wp
  simp [execOp, ho, resolve, invoke, builtin, hd, hs, hrun, Result.andThen]
  refine h _ (show _ = _ from ?_) (below_setRow hb hBg _)
  rw [setRow_heap w g _ _ t _ hg]
  have e := bcells_splice L off x
  rw [← e]
  simp

/-- A []byte OVER A ROW THAT IS KNOWN WHOLE, AS A STRING. -/
theorem run_string_of_row {P : Program} (w : World) (src dst e : TypeId) (g n cap : Nat) (L : List UInt8) (t : TypeId) (fr : Nat × Nat)
    (hs : P.underlying src = some (.slice e)) (he : P.underlying e = some (.int .u8)) (hd : P.underlying dst = some .string)
    (hg : w.heap[g]? = some (.cells (bcells L) t fr)) (hn : L.length = n) :
    (convert src dst (.slice (some ⟨g, 0, none⟩) n cap)).run P w = .ok (.string ⟨L.toArray⟩) w := by
  rw [run_convert_bytes_string w src dst e _ n cap hs he hd]
  have hl := run_loadCells_list (P := P) w ⟨g, 0, none⟩ ((L.map fun b => (b.toNat : Int)).map (Value.int .u8)) (by
    intro j v hv
    rw [show (⟨g, 0, none⟩ : Addr).add j = ⟨g, j, none⟩ from by unfold Addr.add; split <;> simp_all]
    rw [cell_of_row w g j _ t fr hg]
    simpa [bcells, Function.comp_def] using hv)
  simp only [List.length_map, hn] at hl
  rw [run_bytesToString w _ n cap _ hl]
  congr 2
  have hfold : ∀ (M : List UInt8) (r : ByteArray), (M.map fun b => (b.toNat : Int)).foldl (fun r n => r.push (UInt8.ofNat n.toNat)) r = ⟨r.data ++ M.toArray⟩ := by
    intro M
    induction M with
    | nil => intro r; cases r; simp
    | cons b M ih =>
      intro r
      rw [List.map_cons, List.foldl_cons, ih]
      cases r
      simp [ByteArray.push]
  rw [hfold]
  simp [ByteArray.empty, ByteArray.emptyWithCapacity]
  rfl
end Go
