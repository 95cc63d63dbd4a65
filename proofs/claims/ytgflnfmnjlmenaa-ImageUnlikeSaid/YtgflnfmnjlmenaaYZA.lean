/- append to a row of one's own. -/
import Derived.Test.YtgflnfmnjlmenaaYBU
import Derived.Lib.AppendStr
namespace Go
open Go.RowKit Go.Deep Go.Joins
theorem wpList_append_run2 {P : Program} {w : World} {ops : Array Oper} {rest : List Oper} {o : Oper} {a : Act} {Q : Exit → Act → World → Prop} (hgd : o.guard = none) (s x : Operand) (t t2 : TypeId)
    (ho : o.op = .call { callee := .builtin .append, args := #[s, x], argTypes := #[t, t2] }) (v u r : Value) (hs : a.eval s = v) (hx : a.eval x = u) (w' : World)
    (hrun : (Builtin.append_ #[t, t2] o.type #[v, u]).run P w = .ok r w') (h : wpList P ops Q rest (a.put o.dst r) w') : wpList P ops Q (o :: rest) a w := by
  refine wpList_plain hgd fun K hK => ?_
  unfold Oper.wp
  simp [execOp, ho, resolve, invoke, builtin, hs, hx, hrun, Result.andThen]
  exact hK _ _ h
end Go
namespace Go.Proofs.Ytgflnfmnjlmenaa
open Go.RowKit Go.Deep Go.Joins
theorem info22z : ∃ i, Try.prog.info? 22 = some i ∧ i.zero = some (.int .u64 0) ∧ i.size = 1 ∧ i.bytes = 8 := by
  obtain ⟨i, h1, h2, h3, h4⟩ := info_parts (show (Try.prog.info? 22).map (fun i => (i.zero, i.size, i.bytes)) = some (some (.int .u64 0), 1, 8) by kernel_rfl)
  exact ⟨i, h1, h2, h3, h4⟩
theorem info5z : ∃ i, Try.prog.info? 5 = some i ∧ i.zero = some (.int .u8 0) ∧ i.size = 1 ∧ i.bytes = 1 := by
  obtain ⟨i, h1, h2, h3, h4⟩ := info_parts (show (Try.prog.info? 5).map (fun i => (i.zero, i.size, i.bytes)) = some (some (.int .u8 0), 1, 1) by kernel_rfl)
  exact ⟨i, h1, h2, h3, h4⟩
theorem make_c (e t : TypeId) (i : TypeInfo) (z : Value) (bs : Nat) (ht : Try.prog.underlying t = some (.slice e)) (hi : Try.prog.info? e = some i) (hz : i.zero = some z) (hs : i.size = 1) (hb : i.bytes = bs) (_hzs : z.cells.size = 1) (k : IntKind) (n : Nat) (h : n * bs ≤ 140737488355328) (h2 : n ≤ 1000000000) (u : World) :
    ∃ cs, (Instr.makeSlice t (.int .i64 0) (.int k (n : Int))).run Try.prog u = .ok (.slice (some ⟨u.heap.size, 0, none⟩) 0 n) (u.alloc (.cells cs e)) ∧ (u.alloc (.cells cs e)).ownsRow u.heap.size e 1 (.slice (some ⟨u.heap.size, 0, none⟩) 0 n) 0 [] := by
  subst hb
  have hh : ((i.bytes : Nat) : Int) * (n : Int) = ((n * i.bytes : Nat) : Int) := by rw [Nat.mul_comm]; simp
  have h := run_make (P := Try.prog) u t e i z ht hi hz .i64 k 0 (n : Int) (by omega) (by omega) (by rw [hh]; omega) (by omega)
  rw [hs, Int.toNat_natCast, Nat.mul_one] at h
  refine ⟨_, h, rfl, .inr ⟨u.heap.size, n, _, rfl, Nat.le_refl _, heap_alloc_new u _, Nat.zero_le _, by unfold maxLen; omega, ?_, by simp⟩⟩
  rw [size_madeCells, Nat.mul_one]
theorem app_row {w : World} {B e : Nat} {t ty : TypeId} {i : TypeInfo} {z : Value} {bs : Nat} (ht : Try.prog.underlying t = some (.slice e)) (hi : Try.prog.info? e = some i) (hz : i.zero = some z) (hs1 : i.size = 1) (hby : i.bytes = bs) (hzs : z.cells.size = 1)
    {v s : Value} {n m : Nat} {xs ys : List Value} (ho : w.ownsRow B e 1 v n xs) (hr : Reads w s 1 m ys) (h1 : ∀ u ∈ ys, u.oneCell' = true) (h63 : n + m ≤ maxLen) (hb : (n + m) * bs ≤ 140737488355328) (hB : B ≤ w.heap.size) :
    ∃ q c w', (Builtin.append_ #[t, t] ty #[v, s]).run Try.prog w = .ok (.slice q (n + m) c) w' ∧ w'.ownsRow B e 1 (.slice q (n + m) c) (n + m) (xs ++ ys) ∧ Touch w w' (fun k => some k = v.ownBlock) := by
  rcases hr.2 with ⟨rfl, rfl⟩ | ⟨a, cap, rfl, _, _, hc⟩
  · have hys : ys = [] := List.eq_nil_of_length_eq_zero (by have := hr.1; omega)
    obtain ⟨q, c, rfl⟩ := owns_shape ho
    subst hys
    refine ⟨q, c, w, run_append_owned_none (P := Try.prog) w B t ty e i 1 ht hi _ n xs ho, ?_, Touch.refl _ _⟩
    rw [List.append_nil]; exact ho
  · obtain ⟨v', w', hrun, ho', hgr, _⟩ := run_append_own (P := Try.prog) w B t ty e i z 1 bs ht hi hz hs1 hby hzs (by omega) v n xs ho a m cap ys hr.1 hc h1 h63 hb hB
    obtain ⟨q, c, rfl⟩ := owns_shape ho'
    exact ⟨q, c, w', hrun, ho', touch_of_grown hgr⟩
theorem app_below {W w w' : World} {e n : Nat} {v : Value} {xs : List Value} (hb : Below W.heap.size W w) (ho : w.ownsRow W.heap.size e 1 v n xs) (ht : Touch w w' (fun k => some k = v.ownBlock)) : Below W.heap.size W w' :=
  Touch.below hb ht (fun _ hk => (owns_lt ho hk.symm).1) hb.size
theorem app_box {w w' : World} {B e n g t : Nat} {v : Value} {xs : List Value} {cs : Array Value} (ho : w.ownsRow B e 1 v n xs) (ht : Touch w w' (fun k => some k = v.ownBlock)) (hg : w.heap[g]? = some (.cells cs t (0, 0))) (he : e ≠ t) : w'.heap[g]? = some (.cells cs t (0, 0)) :=
  (ht.block g (Array.getElem?_eq_some_iff.1 hg).1 fun h => not_at ho hg he h.symm).trans hg
/-- append of numbers, of strings, of a string's bytes. -/
theorem app_u {w : World} {B : Nat} {v s : Value} {L M : List Int} (ho : OwnM w B v L) (hr : MAt w s M) (hl : (L.length + M.length) ≤ 1000000000) (hB : B ≤ w.heap.size) (ty : TypeId) :
    ∃ q c w', (Builtin.append_ #[37, 37] ty #[v, s]).run Try.prog w = .ok (.slice q (L ++ M).length c) w' ∧ OwnM w' B (.slice q (L ++ M).length c) (L ++ M) ∧ Touch w w' (fun k => some k = v.ownBlock) := by
  obtain ⟨i, hi, hz, hs, hb⟩ := info22z
  have h := app_row (ty := ty) Try.underlying37 hi hz hs hb rfl ho hr (by intro u hu; obtain ⟨x, _, rfl⟩ := List.mem_map.1 hu; rfl) (by unfold maxLen; omega) (by omega) hB
  unfold OwnM
  rw [List.length_append, show mC (L ++ M) = mC L ++ mC M from List.map_append ..]
  exact h
theorem app_f {w : World} {B : Nat} {v s : Value} {L M : List ByteArray} (ho : OwnF w B v L) (hr : FAt w s M) (hl : (L.length + M.length) ≤ 1000000000) (hB : B ≤ w.heap.size) (ty : TypeId) :
    ∃ q c w', (Builtin.append_ #[28, 28] ty #[v, s]).run Try.prog w = .ok (.slice q (L ++ M).length c) w' ∧ OwnF w' B (.slice q (L ++ M).length c) (L ++ M) ∧ Touch w w' (fun k => some k = v.ownBlock) := by
  obtain ⟨i, hi, hz, hs, hb⟩ := info9
  have h := app_row (ty := ty) Try.underlying28 hi hz hs hb rfl ho hr (by intro u hu; obtain ⟨x, _, rfl⟩ := List.mem_map.1 hu; rfl) (by unfold maxLen; omega) (by omega) hB
  unfold OwnF
  rw [List.length_append, show sC (L ++ M) = sC L ++ sC M from List.map_append ..]
  exact h
theorem app_b {w : World} {B : Nat} {v : Value} {D : List UInt8} {s : ByteArray} (ho : OwnD w B v D) (hl : (D.length + s.size) ≤ 1000000000) (hB : B ≤ w.heap.size) (ty : TypeId) :
    ∃ q c w', (Builtin.append_ #[36, 9] ty #[v, .string s]).run Try.prog w = .ok (.slice q (D ++ s.data.toList).length c) w' ∧ OwnD w' B (.slice q (D ++ s.data.toList).length c) (D ++ s.data.toList) ∧ Touch w w' (fun k => some k = v.ownBlock) := by
  obtain ⟨i, hi, hz, hs, hb⟩ := info5z
  obtain ⟨v', w', hrun, ho', hgr, _⟩ := Lib.run_append_own_string (P := Try.prog) w B 36 9 ty 5 i Try.underlying36 Try.underlying9 hi hz hs hb v _ _ ho s (by unfold maxLen; omega) (by omega) hB
  obtain ⟨q, c, rfl⟩ := owns_shape ho'
  have e : D.length + s.size = (D ++ s.data.toList).length := by rw [List.length_append, Array.length_toList]; rfl
  have e2 : dC D ++ Lib.strCells s = dC (D ++ s.data.toList) := by unfold dC Lib.strCells; rw [List.map_append]
  rw [e, e2] at ho'
  rw [e] at hrun
  exact ⟨q, c, w', hrun, ho', touch_of_grown hgr⟩
end Go.Proofs.Ytgflnfmnjlmenaa
