/- BusRecords: what a look does to a machine's records; look of the law. BusRecords: the looks that came in; a machine with its records numbered from one number on. -/
import Derived.Test.YtnedhjaphfjdmaaYBT
import Derived.Test.YtnedhjaphfjdmaaYBX
namespace Go.Proofs.Ytnedhjaphfjdmaa
open Go.RowKit Go.Deep Go.Joins
theorem putD_length (D : List UInt8) (t : Int) (s : ByteArray) : (putD D t s).length = D.length := by
  unfold putD
  split
  · rename_i h
    obtain ⟨h1, h2, h3⟩ := there_iff.1 h.2
    exact spl_length _ _ _ (by omega)
  · rfl
theorem putM_length (n : Nat) (M : List Int) (E t : Int) (s : ByteArray) : (putM n M E t s).length = M.length := by
  unfold putM
  split
  · exact mk_length _ _ _ _
  · rfl
theorem pc_ld (h : Pl) (s t z : Int) (hc : Pc.U32 h.c) (hr : (Pc.ldF h s t z).2.2 = true) : Pc.U32 (Pc.ldF h s t z).1.c := by
  revert hr
  show (fun R : Pl × Int × Bool => R.2.2 = true → Pc.U32 R.1.c) (Pc.ldF h s t z)
  unfold Pc.ldF
  iterate 8 refine ite_P (fun R : Pl × Int × Bool => R.2.2 = true → Pc.U32 R.1.c) _ _ _ (fun _ => hc) ?_
  iterate 2 refine ite_P (fun R : Pl × Int × Bool => R.2.2 = true → Pc.U32 R.1.c) _ _ _ (fun _ => Pc.u32_or _ _) ?_
  exact fun h => by cases h
theorem pc_back (h : Pl) (n e : Int) (hc : Pc.U32 h.c) : Pc.U32 (Pc.backF h n e) := by
  unfold Pc.backF
  split
  · exact Pc.u32_andNot _ _
  · exact hc
theorem pc_st (h : Pl) (t z v : Int) (hc : Pc.U32 h.c) (hr : (Pc.stF h t z v).2 = true) : Pc.U32 (Pc.stF h t z v).1.c := by
  revert hr
  show (fun R : Pl × Bool => R.2 = true → Pc.U32 R.1.c) (Pc.stF h t z v)
  unfold Pc.stF
  iterate 7 refine ite_P (fun R : Pl × Bool => R.2 = true → Pc.U32 R.1.c) _ _ _ (fun _ => hc) ?_
  iterate 2 refine ite_P (fun R : Pl × Bool => R.2 = true → Pc.U32 R.1.c) _ _ _ (fun _ => pc_back _ _ _ hc) ?_
  exact fun h => by cases h
theorem bd_ld (b : Bd) (F : List ByteArray) (t s n : Int) (ok : BdOk b) (hr : (ldF b F t s n).2.2.2 = true) : BdOk (ldF b F t s n).1 ∧ (ldF b F t s n).1.pl = b.pl ∧ (ldF b F t s n).2.1 = F := by
  revert hr
  show (fun R : Bd × List ByteArray × Int × Bool => R.2.2.2 = true → BdOk R.1 ∧ R.1.pl = b.pl ∧ R.2.1 = F) (ldF b F t s n)
  unfold ldF
  iterate 12 refine ite_P (fun R : Bd × List ByteArray × Int × Bool => R.2.2.2 = true → BdOk R.1 ∧ R.1.pl = b.pl ∧ R.2.1 = F) _ _ _ (fun _ => ⟨⟨ok.addr, ok.nicA, ok.sector⟩, rfl, rfl⟩) ?_
  exact fun h => by cases h
theorem bd_out (b : Bd) (F : List ByteArray) (t s v : Int) (h : (stF b F t s v).2.2.1 = 1) : (stF b F t s v).2.2.2.1.size ≠ 0 := by
  revert h
  show (fun R : Bd × List ByteArray × Int × ByteArray × Bool => R.2.2.1 = 1 → R.2.2.2.1.size ≠ 0) (stF b F t s v)
  unfold stF
  iterate 2 refine ite_P (fun R : Bd × List ByteArray × Int × ByteArray × Bool => R.2.2.1 = 1 → R.2.2.2.1.size ≠ 0) _ _ _ (fun h => by cases h) ?_
  refine ite_P (fun R : Bd × List ByteArray × Int × ByteArray × Bool => R.2.2.1 = 1 → R.2.2.2.1.size ≠ 0) _ _ _ (fun _ => by unfold outS; exact Nat.one_ne_zero) ?_
  iterate 3 refine ite_P (fun R : Bd × List ByteArray × Int × ByteArray × Bool => R.2.2.1 = 1 → R.2.2.2.1.size ≠ 0) _ _ _ (fun h => by cases h) ?_
  refine ite_P (fun R : Bd × List ByteArray × Int × ByteArray × Bool => R.2.2.1 = 1 → R.2.2.2.1.size ≠ 0) _ _ _ (fun h => absurd h (by show ordV v 2 3 ≠ 1; unfold ordV; (repeat' split) <;> decide)) ?_
  refine ite_P (fun R : Bd × List ByteArray × Int × ByteArray × Bool => R.2.2.1 = 1 → R.2.2.2.1.size ≠ 0) _ _ _ (fun h => by cases h) ?_
  refine ite_P (fun R : Bd × List ByteArray × Int × ByteArray × Bool => R.2.2.1 = 1 → R.2.2.2.1.size ≠ 0) _ _ _ (fun h => absurd h (by show ordV v 4 5 ≠ 1; unfold ordV; (repeat' split) <;> decide)) ?_
  refine ite_P (fun R : Bd × List ByteArray × Int × ByteArray × Bool => R.2.2.1 = 1 → R.2.2.2.1.size ≠ 0) _ _ _ (fun h => by cases h) ?_
  exact fun h => by cases h
theorem bytesOf_size (D : List UInt8) (k s : Nat) (h : k + s ≤ D.length) : (bytesOf D k s).size = s := by
  show ((D.drop k).take s).toArray.size = s
  simp
  omega
theorem go_size (D : List UInt8) (b : Bd) (h : (goV D b).2 = true) : (goV D b).1.size ≠ 0 := by
  unfold goV at h ⊢
  split at h
  · cases h
  · rename_i hn
    rw [if_neg hn]
    have h' : textE D.length b.nicA b.nicL = 0 := eq_of_beq h
    have h0 : b.nicL ≠ 0 := by omega
    have ht : thereB D.length b.nicA b.nicL = true := by
      unfold textE at h'
      split at h'
      · rename_i k
        exact k.resolve_left h0
      · cases h'
    obtain ⟨h1, h2, h3⟩ := there_iff.1 ht
    show (textS D b.nicA b.nicL).size ≠ 0
    unfold textS
    rw [if_pos ⟨h0, ht⟩, bytesOf_size _ _ _ (by omega)]
    omega
/-- What an effect leaves. -/
structure Left (b : Bd) (F : List ByteArray) (D : List UInt8) (M : List Int) (k : Int) (es : ByteArray) (R : Acts) : Prop where
  d : R.D.length = D.length
  m : R.M.length = M.length
  f : ∀ f ∈ R.F, f ∈ F
  l : R.F.length ≤ F.length
  p : R.b.pl = b.pl
  bk : BdOk b → BdOk R.b
  s : R.ok = true → (k = 1 → es.size ≠ 0) → R.s.size ≠ 0
theorem act_left (b : Bd) (F : List ByteArray) (E : Int) (D : List UInt8) (M : List Int) (k : Int) (es : ByteArray) : Left b F D M k es (actF b F E D M k es) := by
  unfold actF
  by_cases h1 : k = 1
  · simp only [if_pos h1]
    exact ⟨rfl, rfl, fun _ h => h, Nat.le_refl _, rfl, fun h => h, fun _ h => h h1⟩
  simp only [if_neg h1]
  by_cases h2 : k = 2
  · simp only [if_pos h2]
    split
    · exact ⟨rfl, rfl, fun _ h => h, Nat.le_refl _, rfl, fun ok => ⟨ok.addr, ok.nicA, ok.sector⟩, fun h => by cases h⟩
    · exact ⟨putD_length _ _ _, putM_length _ _ _ _ _, fun _ h => h, Nat.le_refl _, rfl, fun ok => ⟨ok.addr, ok.nicA, ok.sector⟩, fun h => by cases h⟩
  simp only [if_neg h2]
  by_cases h3 : k = 3
  · simp only [if_pos h3]
    split
    · exact ⟨rfl, rfl, fun _ h => h, Nat.le_refl _, rfl, fun ok => ⟨ok.addr, ok.nicA, ok.sector⟩, fun h => by cases h⟩
    · split
      · exact ⟨rfl, rfl, fun _ h => h, Nat.le_refl _, rfl, fun ok => ⟨ok.addr, ok.nicA, ok.sector⟩, fun h => by cases h⟩
      · exact ⟨rfl, rfl, fun _ h => h, Nat.le_refl _, rfl, fun ok => ⟨ok.addr, ok.nicA, ok.sector⟩, fun h => by cases h⟩
  simp only [if_neg h3]
  by_cases h4 : k = 4
  · simp only [if_pos h4]
    by_cases h : 0 < F.length
    · simp only [dif_pos h]
      refine ⟨putD_length _ _ _, putM_length _ _ _ _ _, ?_, ?_, rfl, fun h => h, fun h => by cases h⟩
      · intro f hf
        dsimp only at hf
        split at hf
        · exact List.mem_of_mem_tail hf
        · exact hf
      · dsimp only
        split
        · simp
        · exact Nat.le_refl _
    · simp only [dif_neg h]
      exact ⟨rfl, rfl, fun _ h => h, Nat.le_refl _, rfl, fun h => h, fun h => by cases h⟩
  simp only [if_neg h4]
  by_cases h5 : k = 5
  · simp only [if_pos h5]
    exact ⟨rfl, rfl, fun _ h => h, Nat.le_refl _, rfl, fun h => h, fun h _ => go_size D b h⟩
  · simp only [if_neg h5]
    exact ⟨rfl, rfl, fun _ h => h, Nat.le_refl _, rfl, fun h => h, fun h => by cases h⟩
/-- A machine behind a look: what may be may be still, and its records are those of before, or one more with the next number. -/
structure Grown (m : Mc) (p : Pt) (m' : Mc) (p' : Pt) : Prop where
  ok : POk m' p'
  o : (p'.O = p.O ∧ m'.nxt = m.nxt) ∨ ∃ (d : Int) (s : ByteArray), p'.O = p.O ++ [(m.nxt, d, s)] ∧ s.size ≠ 0 ∧ m'.nxt = IntKind.u64.wrap (m.nxt + 1)
theorem act_grown (m : Mc) (p : Pt) (k : Int) (es : ByteArray) (ok : POk m p) (hk : k = 1 → es.size ≠ 0) : Grown m p (acM m p k es).1 (acM m p k es).2 := by
  have L := act_left m.b p.F m.E p.D p.M k es
  unfold acM
  have hp : ∀ (n : Int) (O : List Rec), POk { m with b := (actF m.b p.F m.E p.D p.M k es).b, nxt := n } ⟨(actF m.b p.F m.E p.D p.M k es).F, (actF m.b p.F m.E p.D p.M k es).D, (actF m.b p.F m.E p.D p.M k es).M, O⟩ := fun n O =>
    ⟨L.bk ok.bd, by rw [L.p]; exact ok.c, fun f hf => ok.fz f (L.f f hf), Nat.le_trans L.l ok.fl, by rw [L.d]; exact ok.dl, by rw [L.m]; exact ok.ml⟩
  split
  · rename_i h
    exact ⟨hp _ _, .inr ⟨_, _, rfl, L.s h hk, rfl⟩⟩
  · exact ⟨hp m.nxt _, .inl ⟨rfl, rfl⟩⟩
theorem ld_grown (m : Mc) (p : Pt) (t s : Int) (ok : POk m p) : Grown m p (ldM m p t s).1 (ldM m p t s).2.1 := by
  unfold ldM
  split
  · exact ⟨ok, .inl ⟨rfl, rfl⟩⟩
  split
  · split
    · rename_i h
      exact ⟨⟨⟨ok.bd.addr, ok.bd.nicA, ok.bd.sector⟩, pc_ld _ _ _ _ ok.c h, ok.fz, ok.fl, ok.dl, ok.ml⟩, .inl ⟨rfl, rfl⟩⟩
    · exact ⟨ok, .inl ⟨rfl, rfl⟩⟩
  · split
    · rename_i h
      obtain ⟨h1, h2, h3⟩ := bd_ld m.b p.F t s m.cnt ok.bd h
      exact ⟨⟨h1, by dsimp only; rw [h2]; exact ok.c, by dsimp only; rw [h3]; exact ok.fz, by dsimp only; rw [h3]; exact ok.fl, ok.dl, ok.ml⟩, .inl ⟨rfl, rfl⟩⟩
    · exact ⟨ok, .inl ⟨rfl, rfl⟩⟩
theorem st_grown (m : Mc) (p : Pt) (t s v : Int) (ok : POk m p) (hv : 0 ≤ v ∧ v ≤ 18446744073709551615) : Grown m p (stM m p t s v).1 (stM m p t s v).2.1 := by
  unfold stM
  split
  · exact ⟨ok, .inl ⟨rfl, rfl⟩⟩
  split
  · exact ⟨⟨ok.bd, ok.c, ok.fz, ok.fl, by dsimp only; rw [putD_length]; exact ok.dl, by dsimp only; rw [putM_length]; exact ok.ml⟩, .inl ⟨rfl, rfl⟩⟩
  split
  · split
    · rename_i h
      exact ⟨⟨⟨ok.bd.addr, ok.bd.nicA, ok.bd.sector⟩, pc_st _ _ _ _ ok.c h, ok.fz, ok.fl, ok.dl, ok.ml⟩, .inl ⟨rfl, rfl⟩⟩
    · exact ⟨ok, .inl ⟨rfl, rfl⟩⟩
  · split
    · rename_i h
      obtain ⟨h1, h2, h3⟩ := stF_inv m.b p.F t s v hv ok.bd h
      have hp : POk { m with b := (stF m.b p.F t s v).1 } { p with F := (stF m.b p.F t s v).2.1 } := ⟨h1, by dsimp only; rw [h2]; exact ok.c, by dsimp only; rw [h3]; exact ok.fz, by dsimp only; rw [h3]; exact ok.fl, ok.dl, ok.ml⟩
      split
      · exact ⟨hp, .inl ⟨rfl, rfl⟩⟩
      · have k := act_grown _ _ (stF m.b p.F t s v).2.2.1 (stF m.b p.F t s v).2.2.2.1 hp (bd_out m.b p.F t s v)
        exact ⟨k.ok, k.o⟩
    · exact ⟨ok, .inl ⟨rfl, rfl⟩⟩
abbrev lkC (t s v : Int) (rd : Bool) : Array Value := #[.int .u64 t, .int .i64 s, .int .u64 v, .bool rd]
def lkM (m : Mc) (p : Pt) (t s v : Int) (rd : Bool) : Mc × Pt := if rd then ((ldM m p t s).1, (ldM m p t s).2.1) else ((stM m p t s v).1, (stM m p t s v).2.1)
theorem lk_grown (m : Mc) (p : Pt) (t s v : Int) (rd : Bool) (ok : POk m p) (hv : 0 ≤ v ∧ v ≤ 18446744073709551615) : Grown m p (lkM m p t s v rd).1 (lkM m p t s v rd).2 := by
  cases rd
  · exact st_grown m p t s v ok hv
  · exact ld_grown m p t s ok
set_option maxRecDepth 100000 in
set_option maxHeartbeats 4000000 in
theorem look_any (z B : Nat) (m : Mc) (p : Pt) (t s v : Int) (rd : Bool) (W : World) (K : MS W B z m p) (hB : B ≤ W.heap.size) (ok : POk m p) (hO : (p.O.length + 1) * 32 ≤ 140737488355328) (ht : 0 ≤ t ∧ t ≤ 18446744073709551615) (hv : 0 ≤ v ∧ v ≤ 18446744073709551615) : Calls Try.prog 13 #[.pointer (some ⟨z, 0, none⟩), .agg (lkC t s v rd)] W fun e W' =>
    (∃ x y, e = .returned (.tuple #[x, y])) ∧ Did W W' B z m (lkM m p t s v rd).1 (lkM m p t s v rd).2 := by
  have X := Lib.hid ((Mem.start W).new (lkC t s v rd) 52 (by decide))
  have hb1 : Below W.heap.size W (W.alloc (.cells (lkC t s v rd) 52)) := below1 W _
  have hl : (W.alloc (.cells (lkC t s v rd) 52)).heap[W.heap.size]? = some (.cells (lkC t s v rd) 52 (0, 0)) := X.out.g0
  have K1 := K.next hb1
  have hs := hb1.size
  have C0 := Lib.hid (ld_any z B m p t s _ K1 (by omega) ok ht.1 ht.2)
  have C1 := Lib.hid (st_any z B m p t s v _ K1 (by omega) ok hO ht hv)
  have HT := Lib.hid (touch_of_below hb1 (Ow m z))
  have c0 : (W.alloc (.cells (lkC t s v rd) 52)).cell? ⟨W.heap.size, 0, none⟩ = some (.int .u64 t) := cell_of_row _ _ 0 _ 52 (0, 0) hl
  have c1 : (W.alloc (.cells (lkC t s v rd) 52)).cell? ⟨W.heap.size, 1, none⟩ = some (.int .i64 s) := cell_of_row _ _ 1 _ 52 (0, 0) hl
  have c2 : (W.alloc (.cells (lkC t s v rd) 52)).cell? ⟨W.heap.size, 2, none⟩ = some (.int .u64 v) := cell_of_row _ _ 2 _ 52 (0, 0) hl
  have c3 : (W.alloc (.cells (lkC t s v rd) 52)).cell? ⟨W.heap.size, 3, none⟩ = some (.bool rd) := cell_of_row _ _ 3 _ 52 (0, 0) hl
  clear K hB ok hO ht hv hb1 K1 hs X hl
  go_enter Try.func13, Try.ntmps13
  go_upto_region 1 with (fail)
  generalize W.alloc (.cells (lkC t s v rd) 52) = wa at *
  cases rd
  · go_wp2_with (first | (go_at_call 15; (with_reducible refine C1.out.mono ?_); rintro e wb ⟨rfl, kk⟩; have kk := Lib.hid (kk.before HT.out)) | fail)
    go_ret2
    exact ⟨⟨_, _, rfl⟩, kk.out⟩
  · go_wp2_with (first | (go_at_call 17; (with_reducible refine C0.out.mono ?_); rintro e wb ⟨rfl, kk⟩; have kk := Lib.hid (kk.before HT.out)) | fail)
    go_ret2
    exact ⟨⟨_, _, rfl⟩, kk.out⟩
end Go.Proofs.Ytnedhjaphfjdmaa
namespace Go.Proofs.Ytnedhjaphfjdmaa
open Go.RowKit Go.Deep Go.Joins
/-- A look: where, how many bytes, which number, or a read. -/
abbrev Lk := Int × Int × Int × Bool
def lkL (r : Lk) : List Value := [.int .u64 r.1, .int .i64 r.2.1, .int .u64 r.2.2.1, .bool r.2.2.2]
def lkR (L : List Lk) : List Value := (L.map lkL).flatten
theorem lkR_length (L : List Lk) : (lkR L).length = L.length * 4 := by
  induction L with
  | nil => rfl
  | cons a L ih =>
    have e : lkR (a :: L) = lkL a ++ lkR L := by unfold lkR; simp
    rw [e, List.length_append, ih]
    simp [lkL]
    omega
theorem lkR_get (L : List Lk) : ∀ (k : Nat) (hk : k < L.length) (j : Nat), j < 4 → (lkR L)[4 * k + j]? = (lkL L[k])[j]? := by
  induction L with
  | nil => intro k hk; cases hk
  | cons r L ih =>
    intro k hk j hj
    have e : lkR (r :: L) = lkL r ++ lkR L := by unfold lkR; simp
    rw [e]
    cases k with
    | zero =>
      rw [List.getElem?_append_left (by simp [lkL]; omega)]
      simp
    | succ k =>
      rw [List.getElem?_append_right (by simp [lkL]; omega)]
      rw [show 4 * (k + 1) + j - (lkL r).length = 4 * k + j by simp [lkL]; omega, ih k (by simpa using hk) j hj]
      simp
theorem size52 : (Try.prog.info? 52).map (·.size) = some 4 := by kernel_rfl
theorem run_idx4 (w : World) (g off n c j : Nat) (hj : j < n) : (Instr.indexAt 43 (.slice (some ⟨g, off, none⟩) n c) (.int .i64 (j : Int))).run Try.prog w = .ok (.pointer (some ⟨g, off + j * 4, none⟩)) w := by
  have hs := run_sizeOf 52 4 w size52
  simp [Instr.indexAt, run_underlying Try.underlying43, asIntOf, hs, hj, Sem.run_bind, Result.andThen, add_lit]
theorem look_at {W : World} {q : Option Addr} {c : Nat} {L : List Lk} (h : Reads W (.slice q L.length c) 4 L.length (lkR L)) (h0 : 0 < L.length) : ∃ g off, q = some ⟨g, off, none⟩ ∧ ∀ j (hj : j < L.length), ∀ w, Below W.heap.size W w → (Instr.loadAt 52 (.pointer (some ⟨g, off + j * 4, none⟩))).run Try.prog w = .ok (.agg (lkC L[j].1 L[j].2.1 L[j].2.2.1 L[j].2.2.2)) w := by
  obtain ⟨g, off, cap, e, _, _, hg, hc⟩ := Reads.at h (by omega)
  simp only [Value.slice.injEq] at e
  refine ⟨g, off, e.1, fun j hj w hb => run_load_cells w g (off + j * 4) 52 (lkL L[j]) _ Try.underlying52 rfl size52 fun i v hv => ?_⟩
  have hi : i < 4 := by have := (List.getElem?_eq_some_iff.1 hv).1; simpa [lkL] using this
  have k := hc (4 * j + i) v (by rw [lkR_get L j hj i hi]; exact hv)
  rw [show off + j * 4 + i = off + (4 * j + i) by omega]
  exact (hb.cell (p := ⟨g, off + (4 * j + i), none⟩) hg).trans k
/-- The records' numbers are those from f on, none is empty, and n is the next one. -/
def Nums (f n : Int) (O : List Rec) : Prop := n = IntKind.u64.wrap (f + O.length) ∧ ∀ k (h : k < O.length), O[k].1 = IntKind.u64.wrap (f + k) ∧ O[k].2.2.size ≠ 0
theorem wrap_u (n : Int) : IntKind.u64.wrap n = n % 18446744073709551616 := rfl
theorem Nums.grown {f : Int} {m m' : Mc} {p p' : Pt} (h : Nums f m.nxt p.O) (g : Grown m p m' p') : Nums f m'.nxt p'.O := by
  rcases g.o with ⟨e1, e2⟩ | ⟨d, s, e1, hs, e2⟩
  · rw [e1, e2]; exact h
  · obtain ⟨h1, h2⟩ := h
    rw [e1, e2]
    refine ⟨?_, fun k hk => ?_⟩
    · rw [h1]
      simp only [wrap_u, List.length_append, List.length_cons, List.length_nil]
      omega
    · by_cases hl : k < p.O.length
      · rw [List.getElem_append_left hl]
        exact h2 k hl
      · have : k = p.O.length := by simp at hk; omega
        subst this
        rw [List.getElem_append_right (by omega)]
        have e : ([((m.nxt, d, s) : Rec)])[p.O.length - p.O.length]'(by simp) = (m.nxt, d, s) := by simp
        rw [e]
        exact ⟨h1, hs⟩
theorem POk.on {m : Mc} {p : Pt} (h : POk m p) (n : Nat) (q : Option Addr) (c : Nat) (dv mv ov : Value) : POk (atM m n q c dv mv ov) p := ⟨⟨h.bd.addr, h.bd.nicA, h.bd.sector⟩, h.c, h.fz, h.fl, h.dl, h.ml⟩
structure RS (W w : World) (z : Nat) (f : Int) (n : Nat) (r : Mc) (q : Pt) : Prop where
  ms : MS w W.heap.size z r q
  below : Below W.heap.size W w
  ok : POk r q
  nums : Nums f r.nxt q.O
  few : q.O.length ≤ n
theorem RS.next {W w w' : World} {z n : Nat} {f : Int} {r : Mc} {q : Pt} (h : RS W w z f n r q) (hb : Below w.heap.size w w') : RS W w' z f n r q := ⟨h.ms.next hb, below_then h.below hb, h.ok, h.nums, h.few⟩
theorem RS.shape {W w : World} {z n : Nat} {f : Int} {r : Mc} {q : Pt} (h : RS W w z f n r q) : ∃ a c, r.ov = .slice a q.O.length c := by
  obtain ⟨a, c, e⟩ := owns_shape h.ms.o
  exact ⟨a, c, e⟩
theorem RS.m_o {W w : World} {z n c l : Nat} {f : Int} {r : Mc} {q : Pt} {a : Option Addr} (h : RS W w z f n r q) (e : r.ov = .slice a l c) : w.cell? ⟨z, 78, none⟩ = some (.slice a l c) := e ▸ h.ms.box.cell_t 5
theorem RS.m_n {W w : World} {z n : Nat} {f : Int} {r : Mc} {q : Pt} (h : RS W w z f n r q) : w.cell? ⟨z, 77, none⟩ = some (.int .u64 r.nxt) := h.ms.box.cell_t 4
/-- Behind a look; a row of records that lies behind the machine's parts is as it was. -/
theorem RS.did {W w w' : World} {z n : Nat} {f : Int} {r r' : Mc} {q q' : Pt} (h : RS W w z f n r q) (d : Did w w' W.heap.size z r r' q') (g : Grown r q r' q') : ∃ r2, RS W w' z f (n + 1) r2 q' ∧ ((q'.O = q.O) ∨ ∃ x, q'.O = q.O ++ [x]) ∧ ∀ (B : Nat) (v : Value) (O : List Rec), w.ownsRow B 62 3 v O.length (oC O) → (∀ k, Ow r z k → k < B) → w'.ownsRow B 62 3 v O.length (oC O) := by
  obtain ⟨a, c, dv, mv, ov, hm, ht, _⟩ := d
  have ho : (q'.O = q.O) ∨ ∃ x, q'.O = q.O ++ [x] := by
    rcases g.o with ⟨e, _⟩ | ⟨d, s, e, _⟩
    · exact .inl e
    · exact .inr ⟨_, e⟩
  refine ⟨_, ⟨hm, Touch.below h.below ht (fun k hk => (h.ms.lt hk).1) h.below.size, g.ok.on _ _ _ _ _ _, show Nums f r'.nxt q'.O from h.nums.grown g, ?_⟩, ho, fun B v O k hk => owns_same k fun b hb => ?_⟩
  · have := h.few
    rcases ho with e | ⟨x, e⟩
    · rw [e]; omega
    · rw [e]; simp; omega
  · obtain ⟨h1, h2⟩ := owns_lt k hb
    exact ht.block b h2 fun hS => by have := hk b hS; omega
theorem MS.nil {w : World} {B z : Nat} {m : Mc} {p : Pt} (h : MS w B z m p) : MS (w.setRow z (mcC { m with ov := .slice none 0 0 })) B z { m with ov := .slice none 0 0 } { p with O := [] } :=
  ⟨h.box.put rfl, h.big, h.fr.over h.box (by decide) _, owns_over h.d h.box (by decide) _, owns_over h.mm h.box (by decide) _, World.ownsRow_nil _ _ _ _⟩
theorem Mem.m0 {W w : World} {k : Nat} {m : Mc} {l : List (Nat × Array Value × Nat)} {r : List (Nat × Value × Nat × List Value)} (h : Mem W w ((k, mcC m, 42) :: l) r) : MBox w k m := h.g0
end Go.Proofs.Ytnedhjaphfjdmaa
